import Derived.Test.YtmehhgfbnfbnaaaGreatQVolS
import Derived.Test.YtmehhgfbnfbnaaaGreatQVolR
import Derived.Test.YtmehhgfbnfbnaaaGreatQTk
import Derived.Test.YtmehhgfbnfbnaaaGreatQVolQ
section
set_option maxRecDepth 100000
set_option maxHeartbeats 25600000
open Nat renaming lt_of_lt_of_le->qaa
open List renaming length_map->qab,mem_map->qac
open Iff renaming rfl->qad
namespace Go.Proofs.YtmehhgfbnfbnaaaGreat.Zl
open Go.RowKit Zq Meta Av Apart
section
variable {P:Nat->Prop}{w:World}
def Bg(N:Nat)(be:Value)(base:Nat->List UInt8)(o:Option PS):TP:=fun P w=>match o with
 |none=>be=.pointer none
 |some t=>∃(bb bm:Nat)(x:Meta.Mem)(at_:Int->Sx)(there:Int->Bool)(n:Nat),be=.pointer bb/\Bk w bb 127 (Rk x t.m bm [])/\Y1 w 0 x t.m/\P bb/\P bm/\At P x.rA/\At P x.oA/\At P x.uA/\At P x.iA/\Zu XA Xz zx w bm at_ there n/\Fa N t base at_ there n
def La(A:Option Addr)(l0:List (List UInt8)):TP:=fun P w=>∃L0,Zd w w.heap.size A L0 l0/\At P A/\∀s∈L0,At P s.A
theorem IC{w':World}{A:Option Addr}{xs:List Value}(h:Rd w w.heap.size A xs)(hA:At P A)(hk:∀i,P i->w'.heap[i]? =w.heap[i]?)(hs:w.heap.size<=w'.heap.size):Rd w' w'.heap.size A xs:=by
 rcases h with h0|⟨b,o,rfl,hb,hc⟩
 ·exact .inl h0
 ·exact .inr ⟨b,o,rfl,qaa hb hs,fun i x hx=>(World.cell?_of_block (a:=⟨b,o+i,none⟩) (hk b (hA _ rfl))).trans (hc i x hx)⟩
theorem Kw(A:Option Addr)(l0:List (List UInt8)):XH (La A l0):=⟨fun _ _ _ ⟨L0,h1,h2,h3⟩ hk hs=>⟨L0,⟨h1.len,IC h1.rd h2 hk hs,fun i s b hi hb=>⟨IC (h1.each i s b hi hb).1 (h3 s (List.mem_of_getElem? hi)) hk hs,(h1.each i s b hi hb).2⟩⟩,h2,h3⟩⟩
theorem ER(N:Nat)(be:Value)(base:Nat->List UInt8)(o:Option PS):XH (Bg N be base o):=⟨fun P w w' h hk hs=>by
 cases o with
 |none=>exact h
 |some t=>
  obtain⟨bb,bm,x,at_,there,n,h0,h1,h2,h3,h4,h5,h6,h7,h8,h9,h10⟩:=h
  exact⟨bb,bm,x,at_,there,n,h0,(hk bb h3).trans h1,Y1.frame h2 h5 h6 h7 h8 hk,h3,h4,h5,h6,h7,h8,h9.keep (hk bm h4),h10⟩⟩
def Fv(K:VK)(q:Nat)(k:Dk Sx)(l0:List (List UInt8))(s:PS)(o:Option PS):TP:=star (K.af s) (star (Bg (K.g*K.pp) K.be K.base o) (star (La K.A l0) (Dl 1 K.j q K.b K.bj k)))
theorem iH(K:VK)(q:Nat)(k:Dk Sx)(l0:List (List UInt8))(s:PS)(o:Option PS):XH (Fv K q k l0 s o):=XH.star (Kt K s) (XH.star (ER ..) (XH.star (Kw ..) (Qm ..)))
theorem LV{A C D:TP}(h:star (star A C) D P w):star (star A D) C P w:=by
 obtain⟨P1,P2,⟨P3,P4,h1,h2,h3,h4⟩,h5,h6,h7⟩:=h
 refine⟨fun i=>P3 i\/P2 i,P4,⟨P3,P2,h1,h5,fun i=>qad,fun i h8 h9=>h7 i ((h3 i).2 (.inl h8)) h9⟩,h2,fun i=>?_,fun i h8 h9=>?_⟩
 ·rw[h6,h3]
  constructor
  ·rintro ((h|h)|h)
   ·exact .inl (.inl h)
   ·exact .inr h
   ·exact .inl (.inr h)
  ·rintro ((h|h)|h)
   ·exact .inl (.inl h)
   ·exact .inr h
   ·exact .inl (.inr h)
 ·rcases h8 with h8|h8
  ·exact h4 i h8 h9
  ·exact h7 i ((h3 i).2 (.inr h9)) h8
theorem Ord.lens {j i g pp:Nat}{m:Meta.Met}(h:Ord j i g pp m):(m.rows.length<=65536/\m.own.length<=65536/\m.used.length<=65536/\m.ino.length<=65536)/\(m.own.length<=1000000/\m.used.length<=1000000/\m.ino.length<=1000000):=by
 have h1:=h.rl
 have h2:=h.ol
 have h3:=h.ul
 have h4:=h.il
 have h5:=h.right.YV.g2
 have h6:=h.right.YV.i2
 simp only at h5 h6
 omega
end
end Go.Proofs.YtmehhgfbnfbnaaaGreat.Zl

namespace Go.Proofs.YtmehhgfbnfbnaaaGreat.Zl
open Go.RowKit Zq Meta Av Apart
section
variable {w:World}{P:Nat->Prop}{s:PS}{K:VK}{q j i g pp:Nat}{k:Dk Sx}{l0:List (List UInt8)}{o:Option PS}
theorem Pw{base e k n c:Nat}{A:Option Addr}{xs:List Value}(h:w.ownsRow base e k (.slice A n c) n xs):At (fun i=>base<=i/\i<w.heap.size) A:=fun a ha=>h.lt _ (by rw[ha];rfl)
theorem Pt{P1 P2:Nat->Prop}(h:∀i,P i↔(P1 i\/P2 i))(hb:Bd P w):Bd P1 w/\Bd P2 w:=⟨fun i hi=>hb i ((h i).2 (.inl hi)),fun i hi=>hb i ((h i).2 (.inr hi))⟩
theorem iE{w':World}{bv bm:Nat}{x:Meta.Mem}{m:Meta.Met}{rest rest':List Value}(h:Vs P w bv x m bm rest)(hk:Kept (· =bv) w w')(hB:Bk w' bv 132 (Rk x m bm rest')):Vs P w' bv x m bm rest':=
 ⟨hB,Y1.other h.box (fun i hi hne=>hk.block i hi hne) h.met,h.pv,h.pr,h.po,h.pu,h.pi⟩
theorem nZ(Za:VG K.j K.i K.g K.pp)(hp:Yb K.j K.i K.g K.pp s)(hroom:((K.g*K.pp:Nat):Int)<=(room K.j:Int)-(3+(K.i:Int)/2)-80)(h:Fv K q k l0 s o P w)(hb:Bd P w):
  Calls Tryz.prog 23 #[.pointer K.bv] w fun e w'=>∃be,e=.returned (.int .i64 0)/\Nx (Fv {K with be:=be} q k l0 s (some s)) P w w':=by
 obtain⟨P1,P2,⟨x,at_,there,n,hV,hM,hm1,hrep⟩,⟨P3,P4,hG,⟨P5,P6,hA,hD,e3,d3⟩,e2,d2⟩,e1,d1⟩:=h
 obtain⟨b1,b2⟩:=Pt e1 hb
 obtain⟨b3,b4⟩:=Pt e2 b2
 obtain⟨b5,b6⟩:=Pt e3 b4
 obtain⟨S,hd,hS⟩:=hD
 have hj1:=Za.v.j1
 have hj2:=Za.v.j2
 have hnl:n<=K.g*K.pp:=by have:=hrep.le;rw[hp.dl]at this;exact this
 refine(vS Za (VM.start hV hM hm1) hd.jb ⟨by omega,by omega⟩ hp.ord.Vk hp.ord.lens.1 (by omega)).mono ?_
 rintro e w' ⟨rfl,bb,Rn,y,hB1,hB2,hO,hM2,hbb,vR,hK⟩
 have hne:∀i,P1 i\/P2 i->i≠K.bv->w'.heap[i]? =w.heap[i]? :=fun i hi h1=>hK.block i (hb i ((e1 i).2 hi)) h1
 have hbv:∀i,P2 i->i≠K.bv:=fun i hi h1=>by subst h1;exact d1 _ hV.pv hi
 have hA':=(Kw ..).out _ _ w' hA (fun i hi=>hne i (.inr ((e2 i).2 (.inr ((e3 i).2 (.inl hi))))) (hbv i ((e2 i).2 (.inr ((e3 i).2 (.inl hi)))))) hK.size
 have hD':=(Qm ..).out _ _ w' (⟨S,hd,hS⟩:Dl 1 K.j q K.b K.bj k P6 w) (fun i hi=>hne i (.inr ((e2 i).2 (.inr ((e3 i).2 (.inr hi))))) (hbv i ((e2 i).2 (.inr ((e3 i).2 (.inr hi)))))) hK.size
 have hV':=iE hV hK hB1
 have hM':=hM.keep (hK.block K.bm (b1 K.bm hm1) (Kv hV.box hM.isMap))
 have o1:=Pw hO.rows
 have o2:=Pw hO.own
 have o3:=Pw hO.used
 have o4:=Pw hO.ino
 refine⟨.pointer bb,rfl,fun i=>P1 i\/((w.heap.size<=i/\i<w'.heap.size)\/(P5 i\/P6 i)),⟨P1,fun i=>(w.heap.size<=i/\i<w'.heap.size)\/(P5 i\/P6 i),⟨x,at_,there,n,hV',hM',hm1,hrep⟩,⟨fun i=>w.heap.size<=i/\i<w'.heap.size,fun i=>P5 i\/P6 i,⟨bb,Rn,y,at_,there,n,rfl,hB2,hO.base (Nat.zero_le _),⟨hbb,hB2.lt⟩,⟨vR,hM2.lt⟩,o1,o2,o3,o4,hM2,hrep⟩,⟨P5,P6,hA',hD',fun i=>qad,d3⟩,fun i=>qad,fun i h1 h2=>?_⟩,fun i=>qad,fun i h1 h2=>?_⟩,VL hK (fun i hi=>(e1 i).2 (.inl (by rw[hi];exact hV.pv))),fun i hi=>?_⟩
 ·have:=b4 i ((e3 i).2 h2)
  omega
 ·rcases h2 with h2|h2
  ·have:=b1 i h1
   omega
  ·exact d1 i h1 ((e2 i).2 (.inr ((e3 i).2 h2)))
 ·have hlt:∀i,P i->i<w'.heap.size:=fun i hi=>qaa (hb i hi) hK.size
  rcases hi with hi|hi|hi
  ·have h1:=(e1 i).2 (.inl hi)
   exact⟨.inl h1,hlt i h1⟩
  ·exact⟨.inr hi.1,hi.2⟩
  ·have h1:=(e1 i).2 (.inr ((e2 i).2 (.inr ((e3 i).2 hi))))
   exact⟨.inl h1,hlt i h1⟩
theorem vT(h:Fv K q k l0 s none P w)(hb:Bd P w):
  Calls Tryz.prog 24 #[.pointer K.bv] w fun e w'=>e=.returned (.tuple #[])/\Nx (Fv K q k l0 s none) P w w':=by
 have h':=h
 obtain⟨P1,P2,⟨x,at_,there,n,hV,-,-,-⟩,⟨P3,P4,hG,-,-,-⟩,-,-⟩:=h
 have hG:K.be=.pointer none:=hG
 have hB:=hV.box
 rw[hG]at hB
 refine(EP hB).mono ?_
 rintro e w' ⟨rfl,rfl⟩
 exact⟨rfl,Nx.same h' hb⟩
theorem nY{t:PS}(hp:Yb K.j K.i K.g K.pp t)(h:Fv K q k l0 s (some t) P w)(hb:Bd P w):
  Calls Tryz.prog 24 #[.pointer K.bv] w fun e w'=>∃bm,e=.returned (.tuple #[])/\Nx (Fv {K with bm:=bm} q k l0 t (some t)) P w w':=by
 obtain⟨P1,P2,⟨x,at_,there,n,hV,hM,hm1,hrep⟩,⟨P3,P4,hG,⟨P5,P6,hA,hD,e3,d3⟩,e2,d2⟩,e1,d1⟩:=h
 obtain⟨b1,b2⟩:=Pt e1 hb
 obtain⟨b3,b4⟩:=Pt e2 b2
 have hG0:=hG
 obtain⟨bb,Rn,y,at2,th2,n2,hbe,hB2,hO2,-,-,-,-,-,-,hM2,ag⟩:=hG
 have hB:=hV.box
 rw[hbe]at hB
 refine(vQ hB hB2 hO2.lies hM2 hp.ord.Vk hp.ord.lens.1).mono ?_
 rintro e w' ⟨rfl,Fb,z,hB3,hO3,oO,aby,hK⟩
 have hne:∀i,P2 i->w'.heap[i]? =w.heap[i]? :=fun i hi=>hK.block i (b2 i hi) (fun h1=>by subst h1;exact d1 _ hV.pv hi)
 have hG':=(ER ..).out _ _ w' hG0 (fun i hi=>hne i ((e2 i).2 (.inl hi))) hK.size
 have hA':=(Kw ..).out _ _ w' hA (fun i hi=>hne i ((e2 i).2 (.inr ((e3 i).2 (.inl hi))))) hK.size
 have hD':=(Qm ..).out _ _ w' hD (fun i hi=>hne i ((e2 i).2 (.inr ((e3 i).2 (.inr hi))))) hK.size
 have o1:=Pw hO3.rows
 have o2:=Pw hO3.own
 have o3:=Pw hO3.used
 have o4:=Pw hO3.ino
 rw[<-hbe]at hB3
 have hsub:∀(i:Nat),w.heap.size<=i/\i<w'.heap.size->P1 i\/(w.heap.size<=i/\i<w'.heap.size):=fun i hi=>.inr hi
 refine⟨Fb,rfl,fun i=>(P1 i\/(w.heap.size<=i/\i<w'.heap.size))\/P2 i,⟨fun i=>P1 i\/(w.heap.size<=i/\i<w'.heap.size),P2,⟨z,at2,th2,n2,⟨hB3,hO3.base (Nat.zero_le _),.inl hV.pv,o1.mono hsub,o2.mono hsub,o3.mono hsub,o4.mono hsub⟩,oO,.inr ⟨aby,oO.lt⟩,ag⟩,⟨P3,P4,hG',⟨P5,P6,hA',hD',e3,d3⟩,e2,d2⟩,fun i=>qad,fun i h1 h2=>?_⟩,VL hK (fun i hi=>(e1 i).2 (.inl (by rw[hi];exact hV.pv))),fun i hi=>?_⟩
 ·rcases h1 with h1|h1
  ·exact d1 i h1 h2
  ·have:=b2 i h2
   omega
 ·rcases hi with(hi|hi)|hi
  ·exact⟨.inl ((e1 i).2 (.inl hi)),qaa (b1 i hi) hK.size⟩
  ·exact⟨.inr hi.1,hi.2⟩
  ·exact⟨.inl ((e1 i).2 (.inr hi)),qaa (b2 i hi) hK.size⟩
def Uu(s:PS):PS:={s with D:=s.D.map (fun _=>none)}
theorem Yb.clean (h:Yb j i g pp s):Yb j i g pp (Uu s):=
 ⟨h.ord,h.bl,by rw[Uu,qab];exact h.dl,h.b64,h.zero,fun t ht=>by
  rw[Uu]at ht
  obtain⟨d,-,hd⟩:=qac.1 ht
  cases hd⟩
theorem Fa.clean {N:Nat}(hb:s.B.length=N)(hd:s.D.length=N):Fa N (Uu s) (fun a=>s.B.getD a []) (fun _=>zx) (fun _=>false) 0:=by
 refine⟨fun k hk=>(by cases hk),fun a t h=>?_,fun a h=>⟨rfl,?_⟩,?_⟩
 ·have h1:=List.mem_of_getElem? h
  rw[Uu]at h1
  obtain⟨d,-,hd⟩:=qac.1 h1
  cases hd
 ·have h1:=(List.getElem?_eq_some_iff.1 h).1
  rw[Uu,qab]at h1
  show s.B[a]? =some (s.B.getD a [])
  obtain⟨y,hy⟩:∃y,s.B[a]? =some y:=⟨_,List.getElem?_eq_getElem (by omega)⟩
  rw[hy]
  simp[List.getD,hy]
 ·rw[Uu]
  have:∀l:List (Option Nat),(l.map (fun _=>(none:Option Nat))).countP Option.isSome=0:=fun l=>by
   rw[List.countP_eq_zero]
   intro x hx
   obtain⟨d,-,rfl⟩:=qac.1 hx
   simp
  exact(this s.D).symm
def TV(j i N:Nat)(m:Meta.Met)(l0:List (List UInt8))(at_:Int->Sx)(th:Int->Bool):List (Nat × Sx):=
 ((List.range (3+i/2)).filter (fun a=>(secs m)[a]? != l0[a]?)).map (fun a=>(1+j+a,oN ((secs m).getD a [])))++(Ve N th).map (fun a=>(Ut j i+a,at_ (a:Int)))
theorem Ai(j i N:Nat)(m:Meta.Met)(l0:List (List UInt8))(at_:Int->Sx)(th:Int->Bool):ints (TV j i N m l0 at_ th)=Vj (1+j) (secs m) l0 (3+i/2)++Ql j i N at_ th:=by
 unfold ints TV Vj Ql
 rw[List.map_append,List.map_map,List.map_map]
 rfl
theorem Ah(m:Meta.Met)(l0:List (List UInt8))(at_:Int->Sx)(th:Int->Bool):UH.IJ 1 j (Yq j i g pp) (TV j i (g*pp) m l0 at_ th):=by
 intro p hp
 unfold TV at hp
 unfold UH.Out Yq Ut
 rcases List.mem_append.1 hp with h|h
 ·obtain⟨a,ha,rfl⟩:=qac.1 h
  have:=List.mem_range.1 (List.mem_filter.1 ha).1
  simp only
  omega
 ·obtain⟨a,ha,rfl⟩:=qac.1 h
  have:=(II ha).1
  unfold Ut
  simp only
  omega
theorem Ag(Za:VG j i g pp)(hf:g*pp<=80)(m:Meta.Met)(l0:List (List UInt8))(at_:Int->Sx)(th:Int->Bool):(stored (TV j i (g*pp) m l0 at_ th)).length+1<=j:=by
 have h1:=Za.room
 have h2:(TV j i (g*pp) m l0 at_ th).length<=3+i/2+g*pp:=by
  unfold TV
  rw[List.length_append,qab,qab]
  have h3:=List.length_filter_le (fun a=>(secs m)[a]? != l0[a]?) (List.range (3+i/2))
  rw[List.length_range]at h3
  have h4:=Qk (g*pp) th
  omega
 rw[Yv]
 omega
def vP(j i g pp:Nat)(q:Nat)(k:Dk Sx)(l:List (Nat × Sx))(k':Dk Sx)(q':Nat)(y:Int):Prop:=
 y=0/\q'<=q+1/\UH.Rest 1 j (Yq j i g pp) k' q'/\UH.vw 1 j k'.safe=UH.vw 1 j (puts k.safe l)/\k'.cut=false
theorem iG(Za:VG K.j K.i K.g K.pp)(hp:Yb K.j K.i K.g K.pp s)(hf:K.g*K.pp<=80)(hl0:l0.length=3+K.i/2)(hR:UH.Rest 1 K.j (Yq K.j K.i K.g K.pp) k q)(hcut:k.cut=false)(hq:q<1000000)(hdd:K.dead=false)(h:Fv K q k l0 s o P w)(hb:Bd P w):
  Calls Tryz.prog 25 #[.pointer K.bv] w fun e w'=>∃(A2:Option Addr)(c2:Nat)(k':Dk Sx)(q':Nat)(at_:Int->Sx)(th:Int->Bool)(n:Nat),e=.returned (.int .i64 0)/\Fa (K.g*K.pp) s K.base at_ th n/\vP K.j K.i K.g K.pp q k (TV K.j K.i (K.g*K.pp) s.m l0 at_ th) k' q' 0/\Nx (Fv {K with be:=.pointer none,A:=A2,c:=c2,base:=fun a=>s.B.getD a []} q' k' (secs s.m) (Uu s) none) P w w':=by
 obtain⟨P1,P2,⟨x,at_,there,n,hV,hM,hm1,hrep⟩,⟨P3,P4,hG,⟨P5,P6,hA,hD,e3,d3⟩,e2,d2⟩,e1,d1⟩:=h
 obtain⟨b1,b2⟩:=Pt e1 hb
 obtain⟨b3,b4⟩:=Pt e2 b2
 obtain⟨b5,b6⟩:=Pt e3 b4
 obtain⟨L0,hA1,-,-⟩:=hA
 have hj1:=Za.v.j1
 have hj2:=Za.v.j2
 have hi2:=Za.v.i2
 have hnl:n<=K.g*K.pp:=by have:=hrep.le;rw[hp.dl]at this;exact this
 have hT:Yq K.j K.i K.g K.pp<=4096:=by unfold Yq Ut;omega
 have abz:UH.vO 1 K.j (Yq K.j K.i K.g K.pp):=⟨by omega,by unfold Yq Ut;omega,by omega⟩
 have hsl:(secs s.m).length=3+K.i/2:=by have:=Vf hp.ord.right;simp only at this;omega
 have Oh:∀i,P1 i->¬ P6 i:=fun i h1 h2=>d1 i h1 ((e2 i).2 (.inr ((e3 i).2 (.inr h2))))
 rw[hdd]at hV
 have hcall:=vN Za hV hM hm1 b1 (by omega) hrep.th hp.ord.right hp.ord.Vk hA1 hl0 hsl (Ku hp.ord.right hp.ord.Vk) hp.ord.lens.2 hD b6 Oh (R:=vP K.j K.i K.g K.pp q k (TV K.j K.i (K.g*K.pp) s.m l0 at_ there)) (fun u v Pl hDu hrow Vd hsz hmap=>by
  obtain⟨A',c',rfl,-⟩:=YT hrow
  rw[<-Ai]at hmap
  have hlen:(TV K.j K.i (K.g*K.pp) s.m l0 at_ there).length=Pl.length:=by
   have:=congrArg List.length hmap
   rw[qab,ints,qab]at this
   exact this.symm
  cases hne:TV K.j K.i (K.g*K.pp) s.m l0 at_ there with
  |nil=>
   rw[hne]at hlen
   have h0:Pl.length=0:=by rw[<-hlen];rfl
   rw[h0]
   refine(IG u K.bj A' c').mono ?_
   rintro e w' ⟨rfl,rfl⟩
   exact⟨k,q,0,rfl,.inl rfl,⟨rfl,by omega,hR,rfl,hcut⟩,Nx.same hDu (fun i hi=>qaa (b6 i hi) hsz)⟩
  |cons p0 r0=>
   rw[<-hne]
   have hnn:TV K.j K.i (K.g*K.pp) s.m l0 at_ there≠[]:=by rw[hne];exact fun h=>by cases h
   have hpo:Zc u w.heap.size (.slice A' Pl.length c') Pl:=⟨hrow,Vd⟩
   refine(nW abz (by omega) hT hDu hR hnn (Ah _ _ _ _) (Ag Za hf _ _ _ _) (by omega) hlen (WR hrow).1 (hpo.IE hmap) b6).mono ?_
   rintro e w' ⟨k',q',y,rfl,hdone,hnx⟩
   rcases hdone with⟨f1,f2,f3,f4,f5,-⟩|⟨f0,-⟩
   ·exact⟨k',q',y,rfl,.inl f1,⟨f1,by omega,by rw[f2];exact f3,f4,f5.trans hcut⟩,hnx⟩
   ·rw[hcut]at f0
    cases f0)
 refine hcall.mono ?_
 rintro e w' ⟨k',q',y,rfl,hS,z,hz,⟨oM,hD',hPd⟩,hK,hend⟩
 have hy:=hS.1
 subst hy
 rcases hend with⟨-,A2,c2,L2,hV',hM',hO,abA,Xi⟩|⟨h6,-⟩
 ·have hsub:∀i,w.heap.size<=i/\i<z->w.heap.size<=i/\i<z:=fun i hi=>hi
  have hbP:∀i,P i->i<w'.heap.size:=fun i hi=>qaa (hb i hi) hK.size
  refine⟨A2,c2,k',q',at_,there,n,rfl,hrep,hS,fun i=>P1 i\/((w.heap.size<=i/\i<z)\/oM i),⟨P1,fun i=>(w.heap.size<=i/\i<z)\/oM i,⟨x,_,_,_,?_,hM',hm1,Fa.clean hp.bl hp.dl⟩,⟨fun _=>False,fun i=>(w.heap.size<=i/\i<z)\/oM i,rfl,⟨fun i=>w.heap.size<=i/\i<z,oM,⟨L2,(hO.at_).2.2.2,abA,Xi⟩,hD',fun i=>qad,fun i h1 h2=>?_⟩,fun i=>⟨.inr,fun h=>h.elim False.elim id⟩,fun i h1=>h1.elim⟩,fun i=>qad,fun i h1 h2=>?_⟩,VL hK (fun i hi=>?_),fun i hi=>?_⟩
  ·show Vs P1 w' K.bv x s.m K.bm (ZZ K.j K.i K.g K.pp K.b K.bj (.pointer none) A2 c2 K.dead)
   rw[hdd]
   exact hV'
  ·rcases(hPd i h2).1 with h3|h3
   ·have:=b6 i h3
    omega
   ·omega
  ·have h4:=b1 i h1
   rcases h2 with h2|h2
   ·omega
   ·rcases(hPd i h2).1 with h3|h3
    ·exact Oh i h1 h3
    ·have:=hz.1
     omega
  ·rcases hi with rfl|rfl|hi
   ·exact(e1 _).2 (.inl hV.pv)
   ·exact(e1 _).2 (.inl hm1)
   ·exact(e1 _).2 (.inr ((e2 _).2 (.inr ((e3 _).2 (.inr hi)))))
  ·rcases hi with hi|hi|hi
   ·have h1:=(e1 i).2 (.inl hi)
    exact⟨.inl h1,hbP i h1⟩
   ·exact⟨.inr hi.1,qaa hi.2 hz.2⟩
   ·refine⟨?_,(hPd i hi).2⟩
    rcases(hPd i hi).1 with h3|h3
    ·exact .inl ((e1 _).2 (.inr ((e2 _).2 (.inr ((e3 _).2 (.inr h3))))))
    ·exact .inr (Nat.le_trans hz.1 h3)
 ·cases h6
end
end Go.Proofs.YtmehhgfbnfbnaaaGreat.Zl
end
set_option maxRecDepth 100000
set_option maxHeartbeats 25600000
open List renaming getElem?_eq_getElem->qaa,getElem?_eq_some_iff->qac,countP_le_length->qah,take_of_length_le->qan,countP_singleton->qao
open Go.IntKind renaming wrap_i64->qab,i64->qad
open Go renaming World->qae,Calls->qaj,wpList_store_mid->qal,wpList_load_mid->qam
open Nat renaming zero_le->qaf,le_refl->qag
open Go.RowKit renaming Below->qai,Hid->qak
namespace Go.Proofs.YtmehhgfbnfbnaaaGreat
theorem zcq0{P:Prop}(h:P:=by
 go_wp2_with (at_mapUpdate;refine UG rfl (.tmp 101) (.tmp 103) (.tmp 105) rfl Om.out (by decide) (r:=r0) HR1.out rfl rfl (by first|rfl|exact bg|exact e2b) jS.out rfl (by first|rfl|exact e5) ?_;intro iM hcm hgr;have Xj:=χ (hcm.as Ap.out);have RV:=χ (WT.out.grown hgr WT.out.size (fun q hq=>by cases hq;exact ax.out));clear hcm hgr)
 go_roundw
 case rel=>exact⟨_,by first|rfl|(congr 1),by decide,RV,Xj⟩
 case measure=>simp[intOf]):P:=h
theorem zcq1{P:Prop}(h:P:=by
 go_wp2_with fail
 go_roundw
 case rel=>exact⟨_,by first|rfl|(congr 1),by decide,WT,Xj⟩
 case measure=>simp[intOf]):P:=h
theorem zcq2{P:Prop}(h:P:=by
 first|(simp[intOf];exact Ol.out)|(simp[intOf];omega)):P:=h
theorem zcq3{P:Prop}(h:P:=by
 go_meet
 case rel=>exact⟨rfl,rfl,Cj⟩):P:=h
end Go.Proofs.YtmehhgfbnfbnaaaGreat
namespace Go.Proofs.YtmehhgfbnfbnaaaGreat.Zl
open Go.RowKit Zq Meta Av Apart
theorem jO:VG 130 6 4 4:=⟨⟨by decide,by decide,by decide,by decide,by decide,by decide,by decide,by decide,by decide⟩,by decide⟩
def KO(bv b bj bw bm c:Nat)(be:Value)(A:Option Addr)(base:Nat->List UInt8):VK:=⟨130,6,4,4,bv,b,bj,bm,bw,c,be,A,false,base⟩
def bf(bv b bj bw q0:Nat):TP:=fun P w=>∃(bm c:Nat)(be:Value)(A:Option Addr)(base:Nat->List UInt8)(q:Nat)(k:Dk Sx)(l0:List (List UInt8))(s:PS)(o:Option PS),
 (Yb 130 6 4 4 s/\(∀r,o=some r->Yb 130 6 4 4 r)/\q<=q0/\l0.length=3+6/2/\UH.Rest 1 130 (Yq 130 6 4 4) k q/\k.cut=false)/\Fv (KO bv b bj bw bm c be A base) q k l0 s o P w
def RfX(bw:Nat):TP:=fun P w=>∃t:PS,Yb 130 6 4 4 t/\Rl 130 6 4 4 bw t P w
theorem Ky(bv b bj bw q0:Nat):XH (bf bv b bj bw q0):=⟨fun P w w' ⟨bm,c,be,A,base,q,k,l0,s,o,h1,h2⟩ hk hs=>⟨bm,c,be,A,base,q,k,l0,s,o,h1,(iH ..).out P w w' h2 hk hs⟩⟩
theorem Ch(bw:Nat):XH (RfX bw):=⟨fun P w w' ⟨t,h1,h2⟩ hk hs=>⟨t,h1,(vU ..).out P w w' h2 hk hs⟩⟩
def SO(bv b bj bw q0:Nat)(W u:qae):Prop:=qai W.heap.size W u/\Now W.heap.size (star (bf bv b bj bw q0) (RfX bw)) u
section
variable {bv b bj bw q0:Nat}{W u w':qae}
theorem SO.later (h:SO bv b bj bw q0 W u)(hb:qai u.heap.size u w'):SO bv b bj bw q0 W w':=⟨h.1.trans (hb.mono h.1.size),h.2.below ((Ky ..).star (Ch ..)) hb⟩
theorem SO.step {q1:Nat}{F:FuncId}{args:Array Value}(h:SO bv b bj bw q0 W u)(hc:∀P,bf bv b bj bw q0 P u->Bd P u->qaj Tryz.prog F args u fun e w'=>(∃v,e=.returned v)/\Nx (bf bv b bj bw q1) P u w'):qaj Tryz.prog F args u fun e w'=>∃v,e=.returned v/\SO bv b bj bw q1 W w':=by
 refine(h.2.call h.1.size (fun P h1 h2=>VN (Ch bw) h1 h2 hc)).mono ?_
 rintro e w' ⟨⟨v,he⟩,h1,h2⟩
 exact⟨v,he,h.1.trans h2,h1⟩
theorem SO.begin (h:SO bv b bj bw q0 W u):qaj Tryz.prog 23 #[.pointer bv] u fun e w'=>∃v,e=.returned v/\SO bv b bj bw q0 W w':=by
 refine h.step (fun P h1 hb=>?_)
 obtain⟨bm,c,be,A,base,q,k,l0,s,o,⟨hp,ho,hr⟩,hF⟩:=h1
 refine(nZ (K:=KO bv b bj bw bm c be A base) jO hp (by show((4*4:Nat):Int)<=(room 130:Int)-(3+((6:Nat):Int)/2)-80;decide) hF hb).mono ?_
 rintro e w' ⟨be2,rfl,hN⟩
 exact⟨⟨_,rfl⟩,hN.imp (fun P' hF'=>⟨bm,c,be2,A,base,q,k,l0,s,some s,⟨hp,fun r hr=>(by cases hr;exact hp),hr⟩,hF'⟩)⟩
theorem SO.abort (h:SO bv b bj bw q0 W u):qaj Tryz.prog 24 #[.pointer bv] u fun e w'=>∃v,e=.returned v/\SO bv b bj bw q0 W w':=by
 refine h.step (fun P h1 hb=>?_)
 obtain⟨bm,c,be,A,base,q,k,l0,s,o,⟨hp,ho,hr⟩,hF⟩:=h1
 cases o with
 |none=>
  refine(vT hF hb).mono ?_
  rintro e w' ⟨rfl,hN⟩
  exact⟨⟨_,rfl⟩,hN.imp (fun P' hF'=>⟨bm,c,be,A,base,q,k,l0,s,none,⟨hp,ho,hr⟩,hF'⟩)⟩
 |some t=>
  have ht:=ho t rfl
  refine(nY (K:=KO bv b bj bw bm c be A base) ht hF hb).mono ?_
  rintro e w' ⟨Rn,rfl,hN⟩
  exact⟨⟨_,rfl⟩,hN.imp (fun P' hF'=>⟨Rn,c,be,A,base,q,k,l0,t,some t,⟨ht,ho,hr⟩,hF'⟩)⟩
theorem SO.sync (hq:q0<900000)(h:SO bv b bj bw q0 W u):qaj Tryz.prog 25 #[.pointer bv] u fun e w'=>∃v,e=.returned v/\SO bv b bj bw (q0+1) W w':=by
 refine h.step (fun P h1 hb=>?_)
 obtain⟨bm,c,be,A,base,q,k,l0,s,o,⟨hp,ho,hq1,hl,hR,hc⟩,hF⟩:=h1
 refine(iG (K:=KO bv b bj bw bm c be A base) jO hp (by show 4*4<=80;decide) hl hR hc (by omega) rfl hF hb).mono ?_
 rintro e w' ⟨A2,c2,k2,q2,-,-,-,rfl,-,⟨-,hq2,hR2,-,hc2⟩,hN⟩
 have hsl:(secs s.m).length=3+6/2:=by have:=Vf hp.ord.right;simp only at this;omega
 exact⟨⟨_,rfl⟩,hN.imp (fun P' hF'=>⟨bm,c2,.pointer none,A2,_,q2,k2,secs s.m,Uu s,none,⟨hp.clean,fun r hr=>(by cases hr),by omega,hsl,hR2,hc2⟩,hF'⟩)⟩
theorem SO.does (h:SO bv b bj bw q0 W u)(a:VA)(ho:wQ W a)(hl:a.b.length<=200):
  qaj Tryz.prog 27 #[.pointer bv,.pointer bw,.agg (ZQ a).toArray] u fun e w'=>∃v,e=.returned v/\SO bv b bj bw q0 W w':=by
 obtain⟨hbw,P,⟨P1,P2,⟨bm,c,be,A,base,q,k,l0,s,o,⟨hp,hor,hr⟩,hF⟩,⟨t,ht,hR⟩,e1,d1⟩,hlo⟩:=h
 have h4:Now W.heap.size (star ((KO bv b bj bw bm c be A base).two s t) (star (Bg (4*4) be base o) (star (La A l0) (Dl 1 130 q b bj k)))) u:=⟨P,LV ⟨P1,P2,hF,hR,e1,d1⟩,hlo⟩
 refine(iF (K:=KO bv b bj bw bm c be A base) jO hp ht ((ER ..).star ((Kw ..).star (Qm ..))) h4 hbw.size a ho.c ho.m hl ((ho.b.below hbw).more hbw.size) ?_).mono ?_
 ·rcases ho.b with h0|⟨b,o,h0,hb,-⟩
  ·left
   have h9:=congrArg List.length h0
   rw[Z4]at h9
   exact List.eq_nil_of_length_eq_zero h9
  ·right
   intro x hx
   rw[h0]at hx
   cases hx
   exact hb
 ·rintro e w' ⟨v,he,h5,h6⟩
  refine⟨v,he,hbw.trans h6,h5.imp (fun P' h7=>?_)⟩
  obtain⟨P3,P4,h8,h9,e2,d2⟩:=LV h7
  exact⟨P3,P4,⟨bm,c,be,A,base,q,k,l0,_,o,⟨hp.Px ht ho.lab ho.m,hor,hr⟩,h8⟩,⟨_,ht.does ho.lab ho.m,h9⟩,e2,d2⟩
theorem SO.aj (h:SO bv b bj bw q0 W u):qaj Tryz.prog 35 #[.pointer bv] u fun e w'=>∃(y:Meta.Mem)(m:Meta.Met),e=.returned (.agg #[.slice y.rA m.rows.length y.rc,.slice y.oA m.own.length y.oc,.slice y.uA m.used.length y.uc,.slice y.iA m.ino.length y.ic])/\Ord 130 6 4 4 m/\Y1 w' u.heap.size y m/\SO bv b bj bw q0 W w'/\qai u.heap.size u w':=by
 have hh:=h
 obtain⟨hbw,P,⟨P1,P2,⟨bm,c,be,A,base,q,k,l0,s,o,⟨hp,hor,hr⟩,hF⟩,-⟩,hlo⟩:=h
 obtain⟨P3,P4,⟨x,at_,there,n,hV,hM,hm1,hrep⟩,-⟩:=hF
 refine(nX (VM.start hV hM hm1) hp.ord.Vk hp.ord.lens.1).mono ?_
 rintro e w' ⟨y,he,hy,-,hb⟩
 exact⟨y,s.m,he,hp.ord,hy,hh.later hb,hb⟩
end
end Go.Proofs.YtmehhgfbnfbnaaaGreat.Zl

namespace Go.Proofs.YtmehhgfbnfbnaaaGreat.Zl
open Go.RowKit Zq Meta Av Apart
def Kz(B:Nat)(u:qae)(i:Nat):Prop:=B<=i/\i<u.heap.size/\∃c e,u.heap[i]? =some (.cells c e (0,0))/\(e=37\/e=161)
section
variable {w u:qae}{S:Nat->Prop}{b bj F n q:Nat}{k:Dk Sx}{B:Nat}
section
variable {c:Nat}{A:Option Addr}
theorem OJ(h:DJ B u S bj b F n q k){base e kk m:Nat}{xs:List Value}(ho:u.ownsRow base e kk (.slice A m c) m xs)(he:¬ iJ e)(h2:e≠37/\e≠161):At (fun i=>base<=i/\i<u.heap.size/\(¬ S i/\i≠bj)/\¬ Kz B u i) A:=by
 intro a ha
 subst ha
 rcases ho.2 with⟨h3,-⟩|⟨g,cap,cur,h1,hb,hc,-⟩
 ·cases h3
 ·cases h1
  obtain⟨h4,h5⟩:=DJ.SQ h hc (fun c e' h=>by cases h;exact he)
  refine⟨hb,XZ hc,⟨h4,h5⟩,?_⟩
  rintro ⟨-,-,c',e',h6,h7⟩
  rw[hc]at h6
  cases h6
  exact h7.elim h2.1 h2.2
theorem vW{bv bm bw:Nat}{x:Meta.Mem}{L:List Sc}(h1:Bk u bv 132 (ES 130 6 4 4 b bj bm x (XC ⟨130,6,4,4⟩) (.pointer none) A c false))(h2:u.heap[bm]? =some (.map #[] 0))(h3:Y1 u w.heap.size x (XC ⟨130,6,4,4⟩))(hs:TE u w.heap.size (.slice A (3+6/2) c) L (secs (XC ⟨130,6,4,4⟩)))(h4:DJ w.heap.size u S bj b 1 130 0 k)(hr:UH.Rest 1 130 (Yq 130 6 4 4) k 0)(hc:k.cut=false)(h5:w.heap.size<=bv)(h6:w.heap.size<=bm):
  Now w.heap.size (bf bv b bj bw 0) u:=by
 have hv:=Oi (bm:=bm) h1 h3 h5
 have nb:=DJ.SQ h4 (i:=bv) h1 (fun c e h=>by cases h;decide)
 have nm:=DJ.SQ h4 h2 (fun c e h=>by cases h)
 have lb:¬ Kz w.heap.size u bv:=by
  rintro ⟨-,-,c',e',h7,h8⟩
  have h1':u.heap[bv]? =_:=h1
  rw[h1']at h7
  cases h7
  exact h8.elim (by decide) (by decide)
 have lm:¬ Kz w.heap.size u bm:=by
  rintro ⟨-,-,c',e',h7,h8⟩
  rw[h2]at h7
  cases h7
 obtain⟨hsn,hsa⟩:=hs.at_
 have la1:At (Kz w.heap.size u) A:=by
  intro a ha
  subst ha
  rcases hs.row.2 with⟨h9,-⟩|⟨g,cap,cur,h7,hb,hcc,-⟩
  ·cases h9
  ·cases h7
   exact⟨hb,XZ hcc,_,_,hcc,.inl rfl⟩
 have la2:∀s∈L,At (Kz w.heap.size u) s.A:=by
  intro s hsL
  obtain⟨i,hi⟩:=List.getElem?_of_mem hsL
  have hlt:=(qac.1 hi).1
  obtain⟨y,hy⟩:∃y,(secs (XC ⟨130,6,4,4⟩))[i]? =some y:=⟨_,qaa (by rw[<-hs.len];exact hlt)⟩
  obtain⟨g,e1,-,-,e4,e5⟩:=hs.each i s y hi hy
  intro a ha
  rw[e1]at ha
  cases ha
  exact⟨e5,e4.lt,_,_,e4,.inr rfl⟩
 have Za:=jO
 have hsl:(secs (XC ⟨130,6,4,4⟩)).length=3+6/2:=hsn.symm
 have dl:∀i,Kz w.heap.size u i->¬ S i/\i≠bj:=fun i ⟨_,_,c',e',h7,h8⟩=>DJ.SQ h4 h7 (fun c e h=>by
  cases h
  rcases h8 with rfl|rfl<;>decide)
 refine⟨fun i=>(w.heap.size<=i/\i<u.heap.size/\(¬ S i/\i≠bj)/\¬ Kz w.heap.size u i)\/(Kz w.heap.size u i\/(S i\/i=bj)),⟨bm,c,.pointer none,A,fun _=>ZF,0,k,secs (XC ⟨130,6,4,4⟩),s0 130 6 4 4,none,⟨jN jO,fun r hr=>(by cases hr),qag _,hsl,hr,hc⟩,_,_,⟨x,fun _=>zx,fun _=>false,0,⟨hv.box,hv.met,⟨h5,h1.lt,nb,lb⟩,OJ h4 h3.rows (by decide) (by decide),OJ h4 h3.own (by decide) (by decide),OJ h4 h3.used (by decide) (by decide),OJ h4 h3.ino (by decide) (by decide)⟩,LW h2,⟨h6,XZ h2,nm,lm⟩,iI 130 6 4 4⟩,⟨fun _=>False,fun i=>Kz w.heap.size u i\/(S i\/i=bj),rfl,⟨_,_,⟨L,hsa,la1,la2⟩,⟨S,⟨h4.disk,h4.jb,h4.off,fun _ _=>qaf _,qaf _⟩,fun _=>Iff.rfl⟩,fun _=>Iff.rfl,?_⟩,fun i=>⟨.inr,fun h=>h.elim False.elim id⟩,fun i h=>h.elim⟩,fun _=>Iff.rfl,?_⟩,?_⟩
 ·rintro i hi (g3|g3)
  ·exact(dl i hi).1 g3
  ·exact(dl i hi).2 g3
 ·rintro i ⟨-,-,g1,g2⟩ (g3|g3|g3)
  ·exact g2 g3
  ·exact g1.1 g3
  ·exact g1.2 g3
 ·rintro i (⟨g1,g2,-,-⟩|⟨g1,g2,-⟩|g3|g3)
  ·exact⟨g1,g2⟩
  ·exact⟨g1,g2⟩
  ·obtain⟨c,e,h7,-⟩:=typed h4.disk g3
   exact⟨h4.lo i g3,XZ h7⟩
  ·subst g3
   exact⟨h4.jlo,h4.jb.lt⟩
end
end
section
variable {W u:qae}{bv:Nat}
def SB(bv:Nat)(W u:qae):Prop:=qai W.heap.size W u/\∃b bj,∀bw,Now W.heap.size (bf bv b bj bw 0) u
theorem SB.later {w':qae}(h:SB bv W u)(hb:qai u.heap.size u w'):SB bv W w':=by
 obtain⟨h0,b,bj,h1⟩:=h
 exact⟨h0.trans (hb.mono h0.size),b,bj,fun bw=>(h1 bw).below (Ky ..) hb⟩
theorem vV{B B':Nat}{A:TP}{w:qae}(h:Now B A w)(hB:B'<=B):Now B' A w:=by
 obtain⟨P,h1,h2⟩:=h
 exact⟨P,h1,fun i hi=>⟨Nat.le_trans hB (h2 i hi).1,(h2 i hi).2⟩⟩
theorem wB(h:qai W.heap.size W u):qaj Tryz.prog 16 #[.agg #[.int .i64 130,.int .i64 6,.int .i64 4,.int .i64 4]] u fun e w'=>∃b bv,e=.returned (.tuple #[.pointer (some ⟨b,0,none⟩),.pointer (some ⟨bv,0,none⟩),true])/\SB bv W w':=by
 refine(IK jO u).mono ?_
 rintro e w' ⟨b,bv,bj,bm,S',k',x,A,c,L,he,h1,h2,h3,h4,h5,h6,h7,h8,h9,h10,h11⟩
 exact⟨b,bv,he,h.trans (h11.mono h.size),b,bj,fun bw=>vV (vW h1 h2 h3 h4 h5 h6 h8 h9 h10) h.size⟩
theorem iN(h:SB bv W u):qaj Tryz.prog 18 #[.agg #[.int .i64 130,.int .i64 6,.int .i64 4,.int .i64 4]] u fun e w'=>∃b bj bw,e=.returned (.pointer (some ⟨bw,0,none⟩))/\SO bv b bj bw 0 W w':=by
 obtain⟨h0,b,bj,h1⟩:=h
 refine(Aj jO u).mono ?_
 rintro e w' ⟨bw,y,he,hr,hb⟩
 refine⟨b,bj,bw,he,?_⟩
 obtain⟨h5,h6⟩:=(h1 bw).next h0.size fun P hP hbd=>Nx.add (C:=RfX bw) (Ky ..) hP hbd hb ⟨_,⟨s0 130 6 4 4,jN jO,y,hr.bound⟩,fun _ hi=>hi⟩
 exact⟨h0.trans h6,h5⟩
end
end Go.Proofs.YtmehhgfbnfbnaaaGreat.Zl

namespace Go.Proofs.YtmehhgfbnfbnaaaGreat.Zl
open Go.RowKit Zq Meta Av Apart
theorem ai:Elem 3 (plainElem (H:=Unit) Tryz.prog 3) (Value.int .i64) (fun x=>.lit (.int .i64 x)) Fe 0 where
 make x h:=plainElem_int Tryz.underlying3 (jP h)
 inv v y h:=by
  obtain⟨a,h1,h2,h3⟩:=plainElem_int_inv Tryz.underlying3 h
  exact⟨a,h1,h2,ah h3⟩
 inj x y h:=by simpa using h
 zero w:=by kernel_rfl
 okz:=by unfold Fe;omega
def Cm(u:qae)(g:Nat)(f:Nat->Nat)(N:Nat):Prop:=∃(at_:Int->Int)(th:Int->Bool)(n:Nat),Zu (plainElem (H:=Unit) Tryz.prog 3) (fun x=>.lit (.int .i64 x)) 0 u g at_ th n/\n<=N/\∀r:Nat,at_ (r:Int)=(f r:Int)
section
variable {w w':qae}{g N:Nat}{f:Nat->Nat}
section
variable {r:Nat}
theorem Cm.lt (h:Cm w g f N):g<w.heap.size:=by
 obtain⟨at_,th,n,h1,-⟩:=h
 exact h1.lt
theorem Cm.keep (h:Cm w g f N)(hk:w'.heap[g]? =w.heap[g]?):Cm w' g f N:=by
 obtain⟨at_,th,n,h1,h2⟩:=h
 exact⟨at_,th,n,h1.keep hk,h2⟩
theorem Cm.below (h:Cm w g f N)(hb:qai w.heap.size w w'):Cm w' g f N:=h.keep (hb.block g h.lt)
theorem Cm.as {f2:Nat->Nat}(h:Cm w g f N)(hf:∀r,f r=f2 r):Cm w g f2 N:=by
 obtain⟨at_,th,n,h1,h2,h3⟩:=h
 exact⟨at_,th,n,h1,h2,fun r=>by rw[<-hf r];exact h3 r⟩
theorem Cm.made (w:qae):Cm (w.alloc (.map #[] 0)) w.heap.size (fun _=>0) 0:=⟨fun _=>0,fun _=>false,0,Zu.made w _ _ _,qag _,fun _=>rfl⟩
theorem Cm.look (h:Cm w g f N)(hr:r<=1000000):(Instr.lookup 66 (.map (some g)) (.int .i64 r) false).run Tryz.prog w=.ok (.int .i64 (f r:Int)) w:=by
 obtain⟨at_,th,n,h1,h2,h3⟩:=h
 have:=(h1.look (t:=66) ai rfl (s:=(r:Int)) ⟨by omega,by omega⟩).1
 rwa[h3 r]at this
theorem UG{ops:Array Oper}{rest:List Oper}{o:Oper}{a:Act}{Q:Exit->Act->qae->Prop}(hg:o.guard=none)(mo so vo:Operand)(ho:o.op=Op.mapUpdate 66 mo so vo)(h:Cm w g f N)(hN:N<=1000)(hr:r<=1000000)(hm:a.eval mo=.map (some g)){z1 z2:Int}(hse:a.eval so=.int .i64 z1)(hz1:z1=(r:Int))(hf:f r<=1000000)(hxe:a.eval vo=.int .i64 z2)(hz2:z2=(f r:Int)+1)(hK:∀w',Cm w' g (fun k=>if k=r then f r+1 else f k) (N+1)->w.grownBy w' (some g)->wpList Tryz.prog ops Q rest (a.put o.dst undef) w'):wpList Tryz.prog ops Q (o::rest) a w:=by
 subst hz1
 obtain rfl:z2=((f r+1:Nat):Int):=by omega
 obtain⟨at_,th,n,h1,h2,h3⟩:=h
 refine IL hg mo so vo ho ai rfl hm h1 (by unfold maxLen;omega) (s:=(r:Int)) ⟨by omega,by omega⟩ hse (x:=((f r+1:Nat):Int)) ⟨by omega,by omega⟩ hxe (fun w' h4 h5=>hK w' ⟨_,_,_,h4,by split<;>omega,fun k=>?_⟩ h5)
 by_cases hk:k=r
 ·subst hk
  simp
 ·have h6:¬ (k:Int)=(r:Int):=by omega
  show(if (k:Int)=(r:Int)then((f r+1:Nat):Int)else at_ (k:Int))=((if k=r then f r+1 else f k:Nat):Int)
  rw[if_neg h6,if_neg hk]
  exact h3 k
end
end
section
variable {a:Nat}{o:Int}
theorem Aq{l:List Int}(h:l[a]? =some o)(r:Nat):WS (l.take (a+1)) r=if o=(r:Int)+1 then WS (l.take a) r+1 else WS (l.take a) r:=by
 unfold WS
 rw[List.take_add_one,h,List.countP_append]
 simp only[Option.toList_some,qao,beq_iff_eq]
 split<;>rfl
theorem Ao{l:List Z9.ZC}{n:Z9.ZC}(h:l[a]? =some n)(r:Nat):Vm (l.take (a+1)) r=if n.k≠0/\n.r=r then Vm (l.take a) r+1 else Vm (l.take a) r:=by
 unfold Vm
 rw[List.take_add_one,h,List.countP_append]
 simp only[Option.toList_some,qao,Bool.and_eq_true,bne_iff_ne,beq_iff_eq]
 split<;>rfl
theorem abx:∀x:Fin 256,(x.val%16=0↔(x.val.testBit 0=false/\x.val.testBit 1=false/\x.val.testBit 2=false/\x.val.testBit 3=false))/\(x.val/16%16=0↔(x.val.testBit 4=false/\x.val.testBit 5=false/\x.val.testBit 6=false/\x.val.testBit 7=false)):=by decide+kernel
theorem nib{m:Meta.Met}(ho:Ord 130 6 4 4 m){q:Nat}(h:m.own[q]? =some o){x:UInt8}(hx:m.used[q/2]? =some x):x.toNat/2^(4*(q%2))%16=0↔o=0:=by
 have h1:=ho.used q o h
 have hg:∀t,t<4->Bits.hb m.used (4*q+t)=x.toNat.testBit (4*(q%2)+t):=fun t ht=>by
  unfold Bits.hb
  have e1:(4*q+t)/8=q/2:=by omega
  have e2:(4*q+t)%8=4*(q%2)+t:=by omega
  rw[e1,e2,List.getD,hx]
  rfl
 have h2:(∀a:Nat,a/4=q->Bits.hb m.used a=false)↔(x.toNat.testBit (4*(q%2))=false/\x.toNat.testBit (4*(q%2)+1)=false/\x.toNat.testBit (4*(q%2)+2)=false/\x.toNat.testBit (4*(q%2)+3)=false):=by
  constructor
  ·intro h
   exact⟨(hg 0 (by omega)).symm.trans (h _ (by omega)),(hg 1 (by omega)).symm.trans (h _ (by omega)),(hg 2 (by omega)).symm.trans (h _ (by omega)),(hg 3 (by omega)).symm.trans (h _ (by omega))⟩
  ·rintro ⟨g0,g1,g2,g3⟩ a ha
   have h3:a=4*q+0\/a=4*q+1\/a=4*q+2\/a=4*q+3:=by omega
   rcases h3 with rfl|rfl|rfl|rfl
   ·rw[hg 0 (by omega)];exact g0
   ·rw[hg 1 (by omega)];exact g1
   ·rw[hg 2 (by omega)];exact g2
   ·rw[hg 3 (by omega)];exact g3
 rw[h1,h2]
 have h4:=abx ⟨x.toNat,x.toNat_lt⟩
 simp only at h4
 have h5:q%2=0\/q%2=1:=by omega
 rcases h5 with h5|h5
 ·rw[h5]
  simpa using h4.1
 ·rw[h5]
  exact h4.2
end
end Go.Proofs.YtmehhgfbnfbnaaaGreat.Zl

namespace Go.Proofs.YtmehhgfbnfbnaaaGreat.Zl
open Go.RowKit Zq Meta Av Apart
section
variable {W u:qae}{bv b bj bw q0:Nat}
theorem SO.bel (h:SO bv b bj bw q0 W u):qai W.heap.size W u:=h.1
theorem SO.more {q1:Nat}(h:SO bv b bj bw q0 W u)(hq:q0<=q1):SO bv b bj bw q1 W u:=by
 refine⟨h.1,h.2.imp (fun P h1=>vX h1 (fun P' h2=>?_) (fun _ h=>h))⟩
 obtain⟨bm,c,be,A,base,q,k,l0,s,o,⟨h3,h4,h5,h6⟩,h7⟩:=h2
 exact⟨bm,c,be,A,base,q,k,l0,s,o,⟨h3,h4,by omega,h6⟩,h7⟩
theorem wy{a:VA}(h:wQ W a):(Tryz.prog.info? 43).map (·.size)=some (ZQ a).toArray.size:=by
 rw[List.size_toArray,OM h]
 kernel_rfl
structure Mt(u:qae)(gr go gu gi:Nat)(m:Meta.Met):Prop where
 rows:Rd u u.heap.size (some ⟨gr,0,none⟩) (Z8.ZV m.rows)
 row:∀(a:Nat)(r:Z8.Rw),m.rows[a]? =some r->u.cell? ⟨gr,a*2,none⟩=some (.int .u16 r.lab)/\u.cell? ⟨gr,a*2+1,none⟩=some (.int .i64 r.refs)
 own:∀(a:Nat)(o:Int),m.own[a]? =some o->u.cell? ⟨go,a,none⟩=some (.int .i64 o)
 used:∀(a:Nat)(x:UInt8),m.used[a]? =some x->u.cell? ⟨gu,a,none⟩=some (.int .u8 x.toNat)
 ino:∀(a:Nat)(n:Z9.ZC),m.ino[a]? =some n->u.rangeAt gi (a*14) (Z9.ZX n)
theorem SO.met (h:SO bv b bj bw q0 W u):qaj Tryz.prog 35 #[.pointer bv] u fun e w'=>∃(gr go gu gi rc oc uc ic:Nat)(m:Meta.Met),e=.returned (.agg #[.slice gr 16 rc,.slice go 4 oc,.slice gu 64 uc,.slice gi 6 ic])/\Ord 130 6 4 4 m/\(∀u',qai w'.heap.size w' u'->Mt u' gr go gu gi m)/\SO bv b bj bw q0 W w':=by
 refine h.aj.mono ?_
 rintro e w' ⟨⟨rA,rc,oA,oc,uA,uc,iA,ic⟩,m,rfl,ho,hy,hs,hb⟩
 have h1:=ho.rl
 have h2:=ho.ol
 have h3:=ho.ul
 have h4:=ho.il
 obtain⟨k1,k2,k3,k4⟩:=hy
 simp only at k1 k2 k3 k4⊢
 rw[h1]at k1⊢
 rw[h2]at k2⊢
 rw[h3]at k3⊢
 rw[h4]at k4⊢
 obtain⟨gr,rfl,-,-⟩:=Meta.XI k1 (by omega)
 obtain⟨go,rfl,-,-⟩:=Meta.XI k2 (by omega)
 obtain⟨gu,rfl,-,-⟩:=Meta.XI k3 (by omega)
 obtain⟨gi,rfl,-,-⟩:=Meta.XI k4 (by omega)
 refine⟨gr,go,gu,gi,rc,oc,uc,ic,m,rfl,ho,fun u' hu=>?_,hs⟩
 have j1:=own_below k1 hu
 have j2:=own_below k2 hu
 have j3:=own_below k3 hu
 have j4:=own_below k4 hu
 refine⟨(WR j1).2.2,fun a r hr=>?_,fun a o hr=>?_,fun a x hr=>?_,fun a n hr=>?_⟩
 ·obtain⟨e1,e2⟩:=Z8.UF m.rows a r hr
  have hlt:=(qac.1 hr).1
  exact⟨(j1.cellAt (a*2) (by omega)).trans e1,(j1.cellAt (a*2+1) (by omega)).trans e2⟩
 ·have hlt:=(qac.1 hr).1
  rw[j2.cellAt a (by omega)]
  unfold Z9.ZM
  rw[List.getElem?_map,hr]
  rfl
 ·have hlt:=(qac.1 hr).1
  rw[j3.cellAt a (by omega)]
  unfold Z6
  rw[List.getElem?_map,hr]
  rfl
 ·have:=Yi (WR j4).2.2 ho.Vk.ino hr
  rwa[Nat.zero_add]at this
theorem wu:(Tryz.prog.info? 60).map (·.size)=some 4:=by kernel_rfl
end
end Go.Proofs.YtmehhgfbnfbnaaaGreat.Zl

namespace Go.Proofs.YtmehhgfbnfbnaaaGreat.Zl
open Go.RowKit Zq Meta Av Apart
theorem iP(l:List VA)(A0:Option Addr)(n c:Nat)(W:qae)(hn:l.length=n)(hc:n<=c)(hr:Rd W W.heap.size A0 (Pz l))(ho:∀x∈l,wQ W x):
  qaj Tryz.prog 5 #[.slice A0 n c] W fun e w'=>e=.returned (.bool true)/\qai W.heap.size W w':=by
 have HFE:qak (∀u:qae,qai W.heap.size W u->qaj Tryz.prog 20 #[.slice A0 n c] u fun e w'=>∃m,e=.returned (.slice A0 m c)/\u=w'/\m<=n/\m<=100/\∀q x,q<m->l[q]? =some x->x.b.length<=200):=χ (fun u hu=>oz l A0 n c u hn hc ((hr.below hu).more hu.size) ho)
 have HN:=χ hn
 have HR:=χ hr
 have HO:=χ ho
 clear hn hc hr ho
 go_enter Tryz.func5,Tryz.ntmps5
 go_upto_region 2 with(go_at_call 15;(with_reducible refine(Au _).mono ?_);rintro e w1 ⟨he,hb⟩;obtain rfl:=he;have HB:=χ hb;clear hb)
 go_upto_region 3 with(first|(go_at_call 17;(with_reducible refine(Oq _).mono ?_);rintro e w2 ⟨he,hb⟩;obtain rfl:=he;replace HB:=χ (HB.out.trans (hb.mono HB.out.size));clear hb)|(go_at_call 16;(with_reducible refine(wB HB.out).mono ?_);rintro e w3 ⟨b0,bv,he,hs⟩;obtain rfl:=he;have iO:=χ hs;clear hs HB))
 go_upto_region 6 with(first|(go_at_call 17;(with_reducible refine(Oq _).mono ?_);rintro e w4 ⟨he,hb⟩;obtain rfl:=he;replace iO:=χ (iO.out.later hb);clear hb)|(go_at_call 18;(with_reducible refine(iN iO.out).mono ?_);rintro e w5 ⟨b,bj,bw,he,hs⟩;obtain rfl:=he;have HS:=χ hs;clear hs iO))
 go_upto_region 7 with(go_at_call 20;(with_reducible refine(HFE.out _ HS.out.bel).mono ?_);rintro e w6 ⟨m,he,hw,hm1,hm2,hfl⟩;obtain rfl:=he;subst hw;have bz:=χ hfl;clear hfl HFE)
 go_loopw [9,10,11,12,13,14,16,17,18,33] (fun _ _ _ _ _ _ _ _ _ kc wr=>∃k:Nat,kc=.int .i64 k/\k<=m/\qak (SO bv b bj bw k W wr)) (fun _ _ _ _ _ _ _ _ _ kc _=>m-(intOf kc).toNat)
 case atStart=>exact⟨0,rfl,qaf _,HS⟩
 case round=>
  clear HS
  obtain⟨k,rfl,hk,HS⟩:=hrel
  by_cases hlt:k<m
  ·have hln:k<n:=by omega
   obtain⟨x,hx⟩:∃x,l[k]? =some x:=⟨_,qaa (by rw[HN.out];exact hln)⟩
   have hox:wQ W x:=HO.out x (List.mem_of_getElem? hx)
   obtain⟨ba,oa,hA,hb⟩:=YU HR.out (by rw[Py HO.out,HN.out];omega)
   have HAA:=χ hA
   subst hA
   have Mw:qak (wr.rangeAt ba (oa+k*20) (ZQ x)):=χ (wz (HR.out.below HS.out.1) HO.out hx)
   have HDO:qak (∀u:qae,SO bv b bj bw k W u->qaj Tryz.prog 27 #[.pointer bv,.pointer bw,.agg (ZQ x).toArray] u fun e w'=>∃v,e=.returned v/\SO bv b bj bw k W w'):=χ (fun u hu=>hu.does x hox (bz.out k x hlt hx))
   have VF:=χ (ow x)
   have TW:=χ (wy hox)
   have Oo:qak ((ZQ x).length=20):=χ (OM hox)
   have HZ0:qak ((ZQ x)[0]? =some (.int .u8 x.k)):=χ rfl
   have V7:(k:Int)<(m:Int):=by omega
   have h00:(0:Int)<=(k:Int):=by omega
   have hwk:qad.wrap ((k:Int)+1)=((k+1:Nat):Int):=by rw[qab];omega
   obtain⟨r,hr⟩:∃r:Nat,x.k%13=r:=⟨_,rfl⟩
   have hkr:(x.k:Int)%13=(r:Int):=by omega
   have HQ:qak (k<900000):=χ (by omega)
   clear hx hox hr hb hln
   generalize ZQ x=cx at*
   generalize x.k=xk at*
   go_upto_region 8 with fail
   go_cut [9,140]from 34 (fun s9 sz wr=>∃gx,s9=.pointer (some ⟨gx,0,none⟩)/\sz=undef/\qak (SO bv b bj bw k W wr)/\qak (Bk wr gx 43 cx))
   case first=>
    go_wp2_with (first|(refine qam rfl 43 (.tmp 35) rfl ba (oa+k*20) rfl cx _ Mw.out Tryz.underlying43 rfl TW.out ?_)|(refine qal rfl 43 (.tmp 9) (.tmp 36) rfl wr.heap.size 0 cx.toArray rfl rfl (IM (w:=wr) (xs:=["",(),.int .u16 0,"",.slice none 0 0,"","",(),(),(),(),(),(),(),(),(),(),(),(),.int .u64 0]) Oo.out) TW.out (all_oneCell_toArray VF.out) ?_;have HB3:=χ (Meta.below_setCells (qag _) cx.toArray.toList 0 (Z0 wr (.cells #["",(),.int .u16 0,"",.slice none 0 0,"","",(),(),(),(),(),(),(),(),(),(),(),(),.int .u64 0] 43)));have HS2:=χ (HS.out.later HB3.out);have V9:=χ (LX (w:=wr) (e:=43) (xs:=["",(),.int .u16 0,"",.slice none 0 0,"","",(),(),(),(),(),(),(),(),(),(),(),(),.int .u64 0]) Oo.out);generalize ((wr.alloc (.cells #["",(),.int .u16 0,"",.slice none 0 0,"","",(),(),(),(),(),(),(),(),(),(),(),(),.int .u64 0] 43)).setCells wr.heap.size 0 cx.toArray.toList)=w2 at*))
    go_meet
    case rel=>exact⟨_,rfl,rfl,HS2,V9⟩
   case rest=>
   obtain⟨gx,rfl,rfl,HS2,V9⟩:=hcut
   clear HS Mw
   go_at_K
   go_step
   go_step
   go_cut [33,140]from 34 (fun s33 sz wr=>s33=.int .i64 k/\sz=undef/\qak (SO bv b bj bw k.succ W wr))
   case first=>
    have z0:=(V9.out.cell 0).trans HZ0.out
    have HA2:=χ (Yo V9.out)
    clear V9 HZ0
    have hcase:r=6\/r=7\/r=8\/(r≠6/\r≠7/\r≠8):=by omega
    rcases hcase with h6|h7|h8|⟨h6,h7,h8⟩
    ·subst h6
     go_wp2_with (go_at_call 23;(with_reducible refine HS2.out.begin.mono ?_);rintro e w4 ⟨v4,he,hs⟩;obtain rfl:=he;have Cj:=χ (hs.more (Nat.le_succ k));clear hs z0 HS2)
     exact zcq3
    ·subst h7
     go_wp2_with (go_at_call 24;(with_reducible refine HS2.out.abort.mono ?_);rintro e w4 ⟨v4,he,hs⟩;obtain rfl:=he;have Cj:=χ (hs.more (Nat.le_succ k));clear hs z0 HS2)
     exact zcq3
    ·subst h8
     go_wp2_with (go_at_call 25;(with_reducible refine(HS2.out.sync HQ.out).mono ?_);rintro e w4 ⟨v4,he,hs⟩;obtain rfl:=he;have Cj:=χ hs;clear hs z0 HS2)
     exact zcq3
    ·have e6:((r:Int)==6)=false:=by simp;omega
     have e7:((r:Int)==7)=false:=by simp;omega
     have e8:((r:Int)==8)=false:=by simp;omega
     have f6:¬ (r:Int)=6:=by omega
     have f7:¬ (r:Int)=7:=by omega
     have f8:¬ (r:Int)=8:=by omega
     go_wp2_with (first|(refine qam rfl 43 (.tmp 9) rfl gx 0 rfl cx _ HA2.out Tryz.underlying43 rfl TW.out ?_)|(go_at_call 27;(with_reducible refine(HDO.out _ HS2.out).mono ?_);rintro e w4 ⟨v4,he,hs⟩;obtain rfl:=he;have Cj:=χ (hs.more (Nat.le_succ k));clear hs z0 HS2))
     exact zcq3
   case rest=>
   obtain⟨rfl,rfl,Cj⟩:=hcut
   clear HS2 V9 HZ0 HDO VF TW Oo hkr
   go_upto_region 18 with(first|(go_at_call 35;(with_reducible refine Cj.out.met.mono ?_);rintro e w5 ⟨gr,go,gu,gi,rc,oc,uc,ic,mm,he,ay,hmt,hs⟩;obtain rfl:=he;have EW:=χ ay;have HMT:=χ hmt;have EU:=χ hs;clear ay hmt hs Cj)|(refine qal rfl 60 (.tmp 10) (.tmp 57) rfl w5.heap.size 0 #[.slice gr 16 rc,.slice go 4 oc,.slice gu 64 uc,.slice gi 6 ic] rfl rfl (Rh (Bk.new w5 60 [.slice none 0 0,.slice none 0 0,.slice none 0 0,.slice none 0 0]) (qag 4)) wu (by kernel_rfl) ?_))
   have HM7:=χ (OL [.slice gr 16 rc,.slice go 4 oc,.slice gu 64 uc,.slice gi 6 ic] _ 0 _ (Bk.new w5 60 [.slice none 0 0,.slice none 0 0,.slice none 0 0,.slice none 0 0]))
   have TG:=χ (Meta.below_setCells (qag w5.heap.size) [.slice gr 16 rc,.slice go 4 oc,.slice gu 64 uc,.slice gi 6 ic] 0 (Z0 w5 (.cells #[.slice none 0 0,.slice none 0 0,.slice none 0 0,.slice none 0 0] 60)))
   generalize (w5.alloc (.cells #[.slice none 0 0,.slice none 0 0,.slice none 0 0,.slice none 0 0] 60)).setCells w5.heap.size 0 [.slice gr 16 rc,.slice go 4 oc,.slice gu 64 uc,.slice gi 6 ic]=w7 at*
   have ou:=χ (EU.out.later TG.out)
   have Ar:qak (∀u,qai w7.heap.size w7 u->Mt u gr go gu gi mm/\Bk u w5.heap.size 60 [.slice gr 16 rc,.slice go 4 oc,.slice gu 64 uc,.slice gi 6 ic]):=χ (fun u hu=>⟨HMT.out u (TG.out.trans (hu.mono TG.out.size)),(HM7.out:Bk w7 w5.heap.size 60 [.slice gr 16 rc,.slice go 4 oc,.slice gu 64 uc,.slice gi 6 ic]).below hu HM7.out.lt⟩)
   have HIR:qak (qaj Tryz.prog 38 #[.slice gr 16 rc] w7 fun e w'=>e=.returned (.bool true)/\qai w7.heap.size w7 w'):=χ (by
    have:=Z8.Zb mm.rows (some ⟨gr,0,none⟩) 16 rc w7 EW.out.rl (Ar.out w7 (qai.refl _ _)).1.rows
    rwa[Z8.ZW EW.out.right.rows]at this)
   clear HM7 TG EU HMT
   generalize w5.heap.size=gm at*
   obtain⟨d0,d1,d2,d3⟩:=Z7 (Ar.out w7 (qai.refl _ _)).2
   go_upto_region 20 with(go_at_call 38;(with_reducible refine HIR.out.mono ?_);rintro e w8 ⟨he,hb⟩;obtain rfl:=he;have ET:=χ hb;clear hb d0 d1 d2 d3 HIR;obtain⟨d0,d1,d2,d3⟩:=Z7 (Ar.out _ ET.out).2)
   have hmm:=@run_makeMap Tryz.prog
   go_upto_region 21 with fail
   clear hmm
   have HC9:=χ (Cm.made w8)
   have IY:=χ (ET.out.trans ((Z0 w8 (.map #[] 0)).mono ET.out.size))
   generalize w8.alloc (.map #[] 0)=w9 at*
   generalize hgq:w8.heap.size=gq at*
   have ax:qak (w7.heap.size<=gq):=χ (by have:=ET.out.size;omega)
   clear d0 d1 d2 d3 ET hgq
   obtain⟨d0,d1,d2,d3⟩:=Z7 (Ar.out _ IY.out).2
   go_wp2_with fail
   have HCA:qak (Cm w9 gq (WS (mm.own.take 0)) 0):=χ (HC9.out.as (fun r=>by simp[WS]))
   clear HC9
   go_loopw [12,13,14,78] (fun _ _ _ kc wr=>∃a:Nat,kc=.int .i64 a/\a<=4/\qak (qai w7.heap.size w7 wr)/\qak (Cm wr gq (WS (mm.own.take a)) a)) (fun _ _ _ kc _=>4-(intOf kc).toNat)
   case atStart=>exact⟨0,rfl,qaf _,IY,HCA⟩
   case round=>
    clear HCA IY d0 d1 d2 d3
    obtain⟨a,rfl,ha,WT,Om⟩:=hrel
    obtain⟨d0,d1,d2,d3⟩:=Z7 (Ar.out _ WT.out).2
    by_cases hla:a<4
    ·obtain⟨oo,Mq⟩:∃o,mm.own[a]? =some o:=⟨_,qaa (by have:=EW.out.ol;omega)⟩
     obtain⟨xx,hxx⟩:∃x,mm.used[a/2]? =some x:=⟨_,qaa (by have:=EW.out.ul;omega)⟩
     have co:=(Ar.out _ WT.out).1.own a oo Mq
     have cu:=(Ar.out _ WT.out).1.used (a/2) xx hxx
     have oq:=nib EW.out Mq hxx
     have hor:=EW.out.row Mq
     have Ci:=χ (Aq Mq)
     have hx256:=xx.toNat_lt
     generalize xx.toNat=xn at*
     clear Mq hxx
     have jT:=χ hla
     have hfl:∀r,WS (mm.own.take a) r<=4:=fun r=>by
      unfold WS
      have h1:=qah (p:=fun o:Int=>o==((r:Int)+1)) (l:=mm.own.take a)
      rw[List.length_take]at h1
      omega
     have oh:=χ hfl
     obtain⟨F,hF⟩:∃F,WS (mm.own.take a)=F:=⟨_,rfl⟩
     rw[hF]at Om Ci oh
     clear hF
     have wh:qad.wrap ((a:Int)+1)=((a+1:Nat):Int):=by rw[qab];omega
     have adR:=χ wh
     clear hfl wh
     rcases hor with h0|⟨r0,y0,h0,hy0,-⟩
     ·subst h0
      have HZ:qak (xn/2^(4*(a%2))%16=0):=χ (oq.2 rfl)
      have Xj:qak (Cm wr gq (WS (mm.own.take (a+1))) (a+1)):=χ (by
       obtain⟨x1,x2,x3,x4,x5,x6⟩:=Om.out.as (fun r=>((Ci.out r).trans (if_neg (by omega))).symm)
       exact⟨x1,x2,x3,x4,by omega,x6⟩)
      clear oq Ci Om
      have hE:(a%2=0->((xn:Int)%16 != 0)=false)/\(a%2=1->((xn:Int)/16%16 != 0)=false):=by
       have h1:=HZ.out
       refine⟨fun h2=>?_,fun h2=>?_⟩<;>rw[h2]at h1<;>simp at h1⊢<;>omega
      have HE:=χ hE
      clear hE
      have bq:a=0\/a=1\/a=2\/a=3:=by omega
      rcases bq with rfl|rfl|rfl|rfl
      ·have e0:=HE.out.1 rfl
       exact zcq1
      ·have e0:=HE.out.2 rfl
       exact zcq1
      ·have e0:=HE.out.1 rfl
       exact zcq1
      ·have e0:=HE.out.2 rfl
       exact zcq1
     ·subst h0
      have HR0:qak (r0<16):=χ (by have:=EW.out.rl;have:=(qac.1 hy0).1;omega)
      have HR1:qak (r0<=1000000):=χ (by have:=HR0.out;omega)
      have jS:qak (F r0<=1000000):=χ (by have:=oh.out r0;omega)
      have HZ:qak (¬ xn/2^(4*(a%2))%16=0):=χ (fun h=>by have:=oq.1 h;omega)
      have Ap:qak (∀r,(if r=r0 then F r0+1 else F r)=WS (mm.own.take (a+1)) r):=χ (fun r=>by
       rw[Ci.out r]
       by_cases h:r=r0
       ·subst h
        rw[if_pos rfl,if_pos rfl]
       ·rw[if_neg h,if_neg (by omega)])
      have hE:(a%2=0->((xn:Int)%16 != 0)=true)/\(a%2=1->((xn:Int)/16%16 != 0)=true):=by
       have h1:=HZ.out
       refine⟨fun h2=>?_,fun h2=>?_⟩<;>rw[h2]at h1<;>simp at h1⊢<;>omega
      have HE:=χ hE
      have e1:(0:Int)<(r0:Int)+1:=by omega
      have e2:qad.wrap ((r0:Int)+1-1)=(r0:Int):=by have:=HR0.out;rw[qab];omega
      have e2b:qad.wrap (r0:Int)=(r0:Int):=by have:=HR0.out;rw[qab];omega
      have bg:wrap64 (r0:Int)=(r0:Int):=by unfold wrap64;have:=HR0.out;omega
      have e3:=Om.out.look (r:=r0) HR1.out
      have e4:qad.wrap ((F r0:Int)+1)=((F r0+1:Nat):Int):=by have:=oh.out r0;rw[qab];omega
      have e5:wrap64 ((F r0:Int)+1)=(F r0:Int)+1:=by have:=oh.out r0;unfold wrap64;omega
      clear oq Ci hE hy0
      have bq:a=0\/a=1\/a=2\/a=3:=by omega
      rcases bq with rfl|rfl|rfl|rfl
      ·have e0:=HE.out.1 rfl
       exact zcq0
      ·have e0:=HE.out.2 rfl
       exact zcq0
      ·have e0:=HE.out.1 rfl
       exact zcq0
      ·have e0:=HE.out.2 rfl
       exact zcq0
    ·have haz:(a:Int)=4:=by omega
     rw[haz]
     clear haz
     obtain rfl:a=4:=by omega
     have Rf:mm.own.take 4=mm.own:=qan (by have:=EW.out.ol;omega)
     rw[Rf]at Om
     have vZ:qak (Cm wr gq (fun r=>WS mm.own r+Vm (mm.ino.take 0) r) (4+0)):=χ (Om.out.as (fun r=>by simp[Vm]))
     have Yt:=WT
     clear Om WT Rf hla ha
     generalize hw2:wr=wP at*
     clear hw2
     have av:=χ Yt.out.size
     go_wp2_with fail
     go_loopw [16,110] (fun _ kc wr=>∃a:Nat,kc=.int .i64 a/\a<=6/\qak (qai w7.heap.size w7 wr)/\qak (Cm wr gq (fun r=>WS mm.own r+Vm (mm.ino.take a) r) (4+a))) (fun _ kc _=>6-(intOf kc).toNat)
     case atStart=>exact⟨0,rfl,qaf _,Yt,vZ⟩
     case round=>
      clear vZ Yt d0 d1 d2 d3
      obtain⟨a,rfl,ha,WT,Om⟩:=hrel
      obtain⟨d0,d1,d2,d3⟩:=Z7 (Ar.out _ WT.out).2
      by_cases hla:a<6
      ·obtain⟨nd,hnd⟩:∃o,mm.ino[a]? =some o:=⟨_,qaa (by have:=EW.out.il;omega)⟩
       have HRG:=χ ((Ar.out _ WT.out).1.ino a nd hnd)
       have og:=EW.out.Vk.ino nd (List.mem_of_getElem? hnd)
       have Ci:=χ (Ao hnd)
       have KC:=χ (Z9.Y5 og)
       have Sa:qak ((Z9.ZX nd)[0]? =some (.int .u8 nd.k)):=χ rfl
       have VF:qak ((Z9.ZX nd)[1]? =some (.int .u8 nd.r)):=χ rfl
       have vY:qak (∀v∈Z9.ZX nd,v.oneCell'=true):=χ (Yj nd)
       have wh:qad.wrap ((a:Int)+1)=((a+1:Nat):Int):=by rw[qab];omega
       have hki:=og.k
       have X6:=og.r
       have abv:(a:Int)<6:=by omega
       have abw:(0:Int)<=(a:Int):=by omega
       have iL:qak (a+1<=6):=χ hla
       have Ol:qak (6-(a+1)<6-a):=χ (by omega)
       have HSI:=χ (Qn (Z9.ZX nd) KC.out)
       obtain⟨nk,hnk⟩:∃k,nd.k=k:=⟨_,rfl⟩
       obtain⟨nr,hnr⟩:∃k,nd.r=k:=⟨_,rfl⟩
       rw[hnk]at Sa hki Ci
       rw[hnr]at VF X6 Ci
       generalize Z9.ZX nd=cn at*
       clear hnd og hnk hnr
       go_upto_region 33 with(first|(refine qam rfl 40 (.tmp 112) rfl gi (a*14) rfl cn _ HRG.out Tryz.underlying40 rfl HSI.out ?_)|(refine qal rfl 40 (.tmp 16) (.tmp 113) rfl wr.heap.size 0 cn.toArray rfl rfl (TF wr (xs:=["","",(),(),(),(),(),(),(),(),(),(),(),()]) rfl KC.out) HSI.out (all_oneCell_toArray vY.out) ?_))
       have iK:qak (Bk ((wr.alloc (.cells #["","",(),(),(),(),(),(),(),(),(),(),(),()] 40)).setCells wr.heap.size 0 cn.toArray.toList) wr.heap.size 40 cn):=χ (Oj (w:=wr) (e:=40) (xs:=["","",(),(),(),(),(),(),(),(),(),(),(),()]) cn rfl KC.out)
       have hbn:=Meta.below_setCells (qag wr.heap.size) cn.toArray.toList 0 (Z0 wr (.cells #["","",(),(),(),(),(),(),(),(),(),(),(),()] 40))
       obtain⟨F,hF⟩:∃F,(fun r=>WS mm.own r+Vm (mm.ino.take a) r)=F:=⟨_,rfl⟩
       rw[hF]at Om
       have Am:qak (∀r,F r=WS mm.own r+Vm (mm.ino.take a) r):=χ (fun r=>(congrFun hF r).symm)
       clear hF
       have Al:=χ (Om.out.below hbn)
       have Ak:=χ (WT.out.trans (hbn.mono WT.out.size))
       clear hbn WT Om HRG vY HSI KC d0 d1 d2 d3
       generalize (wr.alloc (.cells #["","",(),(),(),(),(),(),(),(),(),(),(),()] 40)).setCells wr.heap.size 0 cn.toArray.toList=w14 at*
       generalize wr.heap.size=gv at*
       obtain⟨d0,d1,d2,d3⟩:=Z7 (Ar.out _ Ak.out).2
       have b0:=(iK.out.cell 0).trans Sa.out
       have b1:=(iK.out.cell 1).trans VF.out
       clear iK Sa VF
       by_cases hz:nk=0
       ·subst hz
        have Xj:qak (Cm w14 gq (fun r=>WS mm.own r+Vm (mm.ino.take (a+1)) r) (4+(a+1))):=χ (by
         obtain⟨x1,x2,x3,x4,x5,x6⟩:=Al.out.as (f2:=fun r=>WS mm.own r+Vm (mm.ino.take (a+1)) r) (fun r=>by show F r=WS mm.own r+Vm (mm.ino.take (a+1)) r;rw[Am.out r,Ci.out r,if_neg (fun h=>h.1 rfl)])
         exact⟨x1,x2,x3,x4,by omega,x6⟩)
        clear Ci Am Al
        go_wp2_with fail
        go_roundw
        case rel=>exact⟨a+1,by first|rfl|(congr 1),iL.out,Ak,Xj⟩
        case measure=>exact zcq2
       ·have f0:¬ (nk:Int)=0:=by omega
        have f1:((nk:Int) != 0)=true:=by simp;omega
        have HR1:qak (nr<=1000000):=χ (by omega)
        have hfb:F nr<=1000000:=by
         rw[Am.out nr]
         unfold WS Vm
         have h1:=qah (p:=fun o:Int=>o==((nr:Int)+1)) (l:=mm.own)
         have h2:=qah (p:=fun n:Z9.ZC=>n.k != 0&&n.r==nr) (l:=mm.ino.take a)
         rw[List.length_take]at h2
         have h3:=EW.out.ol
         omega
        have jS:=χ hfb
        have HNB:qak (4+a<=1000):=χ (by omega)
        have Ap:qak (∀r,(if r=nr then F nr+1 else F r)=WS mm.own r+Vm (mm.ino.take (a+1)) r):=χ (fun r=>by
         rw[Ci.out r,Am.out r,Am.out nr]
         by_cases h:r=nr
         ·subst h
          rw[if_pos rfl,if_pos ⟨hz,rfl⟩]
          omega
         ·rw[if_neg h,if_neg (fun h2=>h h2.2.symm)])
        have e2b:qad.wrap (nr:Int)=(nr:Int):=by rw[qab];omega
        have bg:wrap64 (nr:Int)=(nr:Int):=by unfold wrap64;omega
        have e3:=Al.out.look (r:=nr) HR1.out
        have e4:qad.wrap ((F nr:Int)+1)=((F nr+1:Nat):Int):=by rw[qab];omega
        have e5:wrap64 ((F nr:Int)+1)=(F nr:Int)+1:=by unfold wrap64;omega
        clear hfb hz Ci Am hki X6
        go_wp2_with (at_mapUpdate;refine UG rfl (.tmp 117) (.tmp 120) (.tmp 122) rfl Al.out HNB.out (r:=nr) HR1.out rfl rfl (by first|rfl|exact bg|exact e2b) jS.out rfl (by first|rfl|exact e5) ?_;intro iM hcm hgr;have Xj:=χ (hcm.as Ap.out);have RV:=χ (Ak.out.grown hgr Ak.out.size (fun q hq=>by cases hq;exact ax.out));clear hcm hgr)
        go_roundw
        case rel=>exact⟨a+1,by first|rfl|(congr 1),iL.out,RV,Xj⟩
        case measure=>exact zcq2
      ·have haz:(a:Int)=6:=by omega
       rw[haz]
       clear haz
       obtain rfl:a=6:=by omega
       have jR:mm.ino.take 6=mm.ino:=qan (by have:=EW.out.il;omega)
       rw[jR]at Om
       obtain⟨F,hF⟩:∃F,(fun r=>WS mm.own r+Vm mm.ino r)=F:=⟨_,rfl⟩
       rw[hF]at Om
       have ak:qak (∀(r:Nat)(y:Z8.Rw),mm.rows[r]? =some y->y.refs=(F r:Int)):=χ (fun r y hy=>by rw[EW.out.refs r y hy,<-hF])
       have vZ:=Om
       have Yt:=WT
       clear Om WT jR hla ha hF av
       generalize hw2:wr=jQ at*
       clear hw2
       go_wp2_with fail
       go_loopw [17,18,127] (fun _ _ kc wr=>∃a:Nat,kc=.int .i64 a/\a<=16/\qak (qai w7.heap.size w7 wr)/\qak (Cm wr gq F (4+6))) (fun _ _ kc _=>16-(intOf kc).toNat)
       case atStart=>exact⟨0,rfl,qaf _,Yt,vZ⟩
       case round=>
        clear vZ Yt d0 d1 d2 d3
        obtain⟨a,rfl,ha,WT,Om⟩:=hrel
        obtain⟨d0,d1,d2,d3⟩:=Z7 (Ar.out _ WT.out).2
        by_cases hla:a<16
        ·obtain⟨rr,hrr⟩:∃o,mm.rows[a]? =some o:=⟨_,qaa (by have:=EW.out.rl;omega)⟩
         obtain⟨r0,r1⟩:=(Ar.out _ WT.out).1.row a rr hrr
         rw[ak.out a rr hrr]at r1
         have e3:=fun u (hu:qai wr.heap.size wr u)=>(Om.out.below hu).look (r:=a) (by omega)
         have E3:=χ e3
         have wh:qad.wrap ((a:Int)+1)=((a+1:Nat):Int):=by rw[qab];omega
         have abv:(a:Int)<16:=by omega
         have abw:(0:Int)<=(a:Int):=by omega
         have iL:qak (a+1<=16):=χ hla
         have Ol:qak (16-(a+1)<16-a):=χ (by omega)
         have hab:=Z0 wr (.cells #[.int .u16 rr.lab,.int .i64 (F a:Int)] 68)
         have e4:=e3 _ hab
         have Al:=χ (Om.out.below hab)
         have Ak:=χ (WT.out.trans (hab.mono WT.out.size))
         clear hrr e3 hab
         go_wp2_with fail
         go_roundw
         case rel=>exact⟨a+1,by first|rfl|(congr 1),iL.out,Ak,Al⟩
         case measure=>exact zcq2
        ·have HSF:=χ (ou.out.later WT.out)
         obtain rfl:a=16:=by omega
         clear Om ak Ar EW ou WT
         go_wp2_with fail
         go_roundw
         case rel=>exact⟨k+1,by first|rfl|(congr 1),hlt,HSF⟩
         case measure=>simp[intOf];omega
  ·obtain rfl:k=m:=by omega
   have HF:=HS
   clear HS HR HO bz HN
   go_wp2_with fail
   go_ret
   exact⟨rfl,HF.out.bel⟩
end Go.Proofs.YtmehhgfbnfbnaaaGreat.Zl
