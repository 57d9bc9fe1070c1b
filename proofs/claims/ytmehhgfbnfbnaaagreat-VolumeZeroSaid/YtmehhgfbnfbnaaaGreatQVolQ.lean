import Derived.Test.YtmehhgfbnfbnaaaGreatQVolP
import Derived.Test.YtmehhgfbnfbnaaaGreatQVolF
import Derived.Test.YtmehhgfbnfbnaaaGreatQVolN
import Derived.Test.YtmehhgfbnfbnaaaGreatQTk
set_option maxRecDepth 100000
set_option maxHeartbeats 25600000
open List renaming setIfInBounds_toArray->qaa,set_cons_zero->qab,set_cons_succ->qac,eq_of_mem_replicate->qad,mem_of_getElem?->qaf,replicate->qah,length_replicate->qal,getElem?_eq_getElem->qao
open Go renaming World->qae,Calls->qaj,wpList_load_mid->qan
open Go.Act renaming put->qag
open Go.RowKit renaming Below->qai
open Nat renaming le_trans->qak,zero_le->qam
namespace Go.Proofs.YtmehhgfbnfbnaaaGreat.Y7
open Go.RowKit Zc Meta Apart
def s0(j i g pp:Nat):PS:=⟨XE ⟨j,i,g,pp⟩,qah (g*pp) ZO,qah (g*pp) none⟩
theorem lF{j i g pp:Nat}(h:VG j i g pp):XF j i g pp (s0 j i g pp) where
 ord:=by
  have hv:(⟨j,i,g,pp⟩:Meta.Geo).Ok:=h.v
  refine⟨Qo hv,KY _,fun q o hq=>?_,fun r y hy=>?_⟩
  ·have h0:o=0:=qad (qaf hq)
   exact⟨fun _ a _=>Qn 64 a,fun _=>h0⟩
  ·have h0:y=.z:=qad (qaf hy)
   have h1:IX (XE ⟨j,i,g,pp⟩).own r=0:=by
    unfold IX
    rw[List.countP_eq_zero]
    intro o ho
    have h2:o=0:=qad ho
    subst h2
    simp
    omega
   have h2:IW (XE ⟨j,i,g,pp⟩).ino r=0:=by
    unfold IW
    rw[List.countP_eq_zero]
    intro o ho
    have h2:o=.z:=qad ho
    subst h2
    simp[Z9.Zz.z]
   show y.refs=((IX (XE ⟨j,i,g,pp⟩).own r+IW (XE ⟨j,i,g,pp⟩).ino r:Nat):Int)
   rw[h1,h2,h0]
   rfl
 bl:=qal
 dl:=qal
 b64 b hb:=by
  rw[qad hb]
  simp[ZO]
 zero a b _ hb:=qad (qaf hb)
 tag t ht:=by
  have:=qad ht
  cases this
theorem qM(j i g pp:Nat):Bf (g*pp) (s0 j i g pp) (fun _=>ZO) (fun _=>zx) (fun _=>false) 0 where
 th k hk:=by cases hk
 dir a t ht:=by
  have:=qad (qaf ht)
  cases this
 lq a ha:=⟨rfl,by
  have hlt:a<g*pp:=by
   have:=(List.getElem?_eq_some_iff.1 ha).1
   rwa[show(s0 j i g pp).D.length=g*pp from qal]at this
  show(qah (g*pp) ZO)[a]? =some ZO
  rw[List.getElem?_replicate,if_pos hlt]⟩
 cnt:=by
  show 0=(qah (g*pp) (none:Option Nat)).countP Option.isSome
  rw[List.countP_replicate]
  simp
section
variable {w u:qae}{S:Nat->Prop}{b bj F n q:Nat}{k:Dk Sx}{B:Nat}
section
variable {i c:Nat}{A:Option Addr}
theorem DJ.RL (h:DJ B u S bj b F n q k){o:Obj}(ho:u.heap[i]? =some o)(hn:∀c e,o=.cells c e (0,0)->¬ qL e):¬ S i/\i≠bj:=by
 refine⟨fun hs=>?_,fun he=>?_⟩
 ·obtain⟨c,e,h1,h2⟩:=typed h.disk hs
  rw[ho]at h1
  cases h1
  exact hn _ _ rfl h2
 ·subst he
  have hj:u.heap[i]? =_:=h.jb
  rw[ho]at hj
  cases hj
  exact hn _ _ rfl (.inr (.inr (.inr rfl)))
theorem MS(h:DJ B u S bj b F n q k){base e kk m:Nat}{xs:List Value}(ho:u.ownsRow base e kk (.slice A m c) m xs)(he:¬ qL e):At (fun i=>base<=i/\i<u.heap.size/\¬ S i/\i≠bj) A:=by
 intro a ha
 subst ha
 rcases ho.2 with⟨h2,-⟩|⟨g,cap,cur,h1,hb,hc,h3⟩
 ·cases h2
 ·cases h1
  obtain⟨h4,h5⟩:=DJ.RL h hc (fun c e' h=>by cases h;exact he)
  exact⟨hb,Xp hc,h4,h5⟩
theorem El{j g pp bv bm:Nat}{x:Meta.Mem}(h1:Bk u bv 132 (IV j i g pp b bj bm x (XE ⟨j,i,g,pp⟩) (.pointer none) A c false))(h2:u.heap[bm]? =some (.map #[] 0))(h3:YD u w.heap.size x (XE ⟨j,i,g,pp⟩))(h4:DJ w.heap.size u S bj b 1 j 0 k)(h5:w.heap.size<=bv)(h6:w.heap.size<=bm):
  Now w.heap.size (star (Vl j i g pp bv b bj bm (.pointer none) A c false (fun _=>ZO) (s0 j i g pp)) (Dl 1 j 0 b bj k)) u:=by
 have hv:=Qm (bm:=bm) h1 h3 h5
 have nb:=DJ.RL h4 (i:=bv) h1 (fun c e h=>by cases h;decide)
 have nm:=DJ.RL h4 h2 (fun c e h=>by cases h)
 refine⟨fun i=>(w.heap.size<=i/\i<u.heap.size/\¬ S i/\i≠bj)\/(S i\/i=bj),⟨_,_,⟨x,fun _=>zx,fun _=>false,0,?_,N8 h2,⟨h6,Xp h2,nm.1,nm.2⟩,qM j i g pp⟩,⟨S,⟨h4.disk,h4.jb,h4.off,fun _ _=>qam _,qam _⟩,fun _=>Iff.rfl⟩,fun _=>Iff.rfl,?_⟩,?_⟩
 ·exact⟨hv.box,hv.met,⟨h5,h1.lt,nb.1,nb.2⟩,MS h4 h3.rows (by decide),MS h4 h3.own (by decide),MS h4 h3.used (by decide),MS h4 h3.ino (by decide)⟩
 ·rintro i ⟨-,-,g1,g2⟩ (g3|g3)
  ·exact g1 g3
  ·exact g2 g3
 ·rintro i (⟨g1,g2,-,-⟩|g3|g3)
  ·exact⟨g1,g2⟩
  ·obtain⟨c,e,h7,-⟩:=typed h4.disk g3
   exact⟨h4.lo i g3,Xp h7⟩
  ·subst g3
   exact⟨h4.fM,h4.jb.lt⟩
end
end
theorem wD{K:VK}{s t:PS}{E:TL}{B:Nat}{w u:qae}(hE:XP E)(h:Now B (star (K.mH s) E) w)(hB:B<=w.heap.size)(hb:qai w.heap.size w u){y:Rm}(hr:Rv K.j K.i K.g K.pp (w.heap.size<=·) u K.bw y t):Now B (star (K.two s t) E) u/\qai B w u:=
 h.next hB fun P hP hbd=>(Nx.add (C:=K.ref t) ((QG K s).star hE) hP hbd hb ⟨_,⟨y,hr.bound⟩,fun _ hi=>hi⟩).imp fun P' h'=>by
  have h1:=Wq (Wo (Be h' (fun _=>Wq) (fun _ h=>h)))
  exact h1
theorem Em{j i g pp:Nat}{k:Dk Sx}(h1:Tq.Rest 1 j (Ym j i g pp) k 0)(h2:Tq.vw 1 j k.safe=Tq.vw 1 j (fmtS j i g pp)):Holds j i (g*pp) (fun _=>ZO) k:=by
 refine⟨h1.dead,fun a ha=>⟨zx,?_,rfl⟩⟩
 have h3:=congrFun h2 (Vy j i+a)
 have hq:Vy j i+a<1\/1+j<=Vy j i+a:=by unfold Vy;omega
 unfold Tq.vw at h3
 rw[if_pos hq,if_pos hq,Ql (by unfold Vy;omega) (by unfold Ym;omega)]at h3
 unfold Dk.now
 rw[h1.un]
 exact h3
end Go.Proofs.YtmehhgfbnfbnaaaGreat.Y7

namespace Go.Proofs.YtmehhgfbnfbnaaaGreat.Y7
open Go.RowKit Zc Meta Apart
structure qQ(K:VK)(k0:Dk Sx):Prop where
 vg:VG K.j K.i K.g K.pp
 n:K.g*K.pp=16
 hold:Holds K.j K.i (K.g*K.pp) K.base k0
def I1(s:PS):Nat:=(List.range 16).countP (fun k=>Bits.hb s.m.used k)
abbrev ZD(K:VK)(k0:Dk Sx):TL:=Dl 1 K.j 0 K.b K.bj k0
def ST(K:VK)(k0:Dk Sx)(W u:qae):Prop:=∃s,XF K.j K.i K.g K.pp s/\Now W.heap.size (star (K.two s s) (ZD K k0)) u/\qai W.heap.size W u
def ST2(K:VK)(k0:Dk Sx)(W:qae)(i:Nat)(u:qae):Prop:=∃s t,XF K.j K.i K.g K.pp s/\Now W.heap.size (star (K.two s t) (ZD K k0)) u/\qai W.heap.size W u/\i<=I1 s
def lC(K:VK)(k0:Dk Sx)(W:qae)(i b:Nat)(u:qae):Prop:=∃s t,XF K.j K.i K.g K.pp s/\Now W.heap.size (star (K.two s t) (ZD K k0)) u/\qai W.heap.size W u/\i+1<=I1 s/\b<16/\Bits.hb s.m.used b=true/\s.B[b]? =some ZO
def wO(K:VK)(k0:Dk Sx)(W:qae)(i b H:Nat)(u:qae):Prop:=∃(s t:PS)(P:Nat->Prop),XF K.j K.i K.g K.pp s/\star (K.two s t) (ZD K k0) P u/\(∀q,P q->W.heap.size<=q/\q<H)/\H<=u.heap.size/\qai W.heap.size W u/\i+1<=I1 s/\b<16/\Bits.hb s.m.used b=true/\s.B[b]? =some ZO
theorem wy(s:PS):I1 s<=16:=by
 unfold I1
 exact qak List.countP_le_length (by simp)
theorem Eg{l:List Nat}{p q:Nat->Bool}{b:Nat}(hb:b∈l)(hpb:p b=false)(hq:∀k,q k=if k=b then true else p k):l.countP p+1<=l.countP q:=by
 induction l with
 |nil=>cases hb
 |cons x l ih=>
  have mono:l.countP p<=l.countP q:=List.countP_mono_left fun k _ hk=>by
   rw[hq k]
   split
   ·rfl
   ·exact hk
  rw[List.countP_cons,List.countP_cons]
  by_cases hx:x=b
  ·subst hx
   rw[hpb,hq x,if_pos rfl]
   simp
   exact mono
  ·have h1:=ih (by
    rcases List.mem_cons.1 hb with h|h
    ·exact absurd h.symm hx
    ·exact h)
   have h2:q x=p x:=by rw[hq x,if_neg hx]
   rw[h2]
   omega
section
variable {K:VK}{k0:Dk Sx}{W u w':qae}{i b:Nat}
section
variable {H:Nat}
theorem ST.below (h:ST K k0 W u):qai W.heap.size W u:=by
 obtain⟨s,h1,h2,h3⟩:=h
 exact h3
theorem IZ(K:VK)(k0:Dk Sx)(s t:PS):XP (star (K.two s t) (ZD K k0)):=(Zq K s t).star (RN _ _ _ _ _ _)
theorem ST.later (h:ST K k0 W u)(hb:qai u.heap.size u w'):ST K k0 W w':=by
 obtain⟨s,h1,h2,h3⟩:=h
 exact⟨s,h1,h2.below (IZ K k0 s s) hb,h3.trans (hb.mono h3.size)⟩
theorem ST.two (h:ST K k0 W u):ST2 K k0 W 0 u:=by
 obtain⟨s,h1,h2,h3⟩:=h
 exact⟨s,s,h1,h2,h3,qam _⟩
theorem ST.does (hk:qQ K k0)(h:ST K k0 W u)(a:VA)(ho:Eo W a)(hl:a.b.length<=200):
  qaj Tryz.prog 27 #[.pointer K.bv,.pointer K.bw,.agg (ZQ a).toArray] u fun e w'=>e=.returned (.bool true)/\ST K k0 W w':=by
 obtain⟨s,h1,h2,h3⟩:=h
 refine(Bh hk.vg h1 (RN _ _ _ _ _ _) h2 h3.size a ho.c ho.m hl ((ho.b.below h3).more h3.size) ?_).mono ?_
 ·rcases ho.b with h0|⟨b,o,h0,hb,-⟩
  ·left
   have h9:=congrArg List.length h0
   rw[Z5]at h9
   exact List.eq_nil_of_length_eq_zero h9
  ·right
   intro x hx
   rw[h0]at hx
   cases hx
   exact hb
 ·rintro e w' ⟨he,h4,h5⟩
  exact⟨he,_,h1.does ho.lab ho.m,h4,h3.trans h5⟩
theorem ST2.alloc (hk:qQ K k0)(h:ST2 K k0 W i u){a:Nat}(ha:a<65536):
  qaj Tryz.prog 39 #[.pointer K.bv,.int .u16 a] u fun e w'=>qai W.heap.size W w'/\∃(b er:Nat),e=.returned (.tuple #[b,er])/\(er=4\/er=5\/(er=0/\i<16/\lC K k0 W i b w')):=by
 obtain⟨s,t,h1,h2,h3,h4⟩:=h
 refine(Now.call (A':=star (K.two (ZC K.pp s a).1 t) (ZD K k0)) h2 h3.size (fun P g1 g2=>XO (RN _ _ _ _ _ _) g1 g2 (fun P1 g3 g4=>XO (QE K t) g3 g4 (fun P2 g5 _=>FK hk.vg g5 h1 a)))).mono ?_
 rintro e w' ⟨he,h5,h6⟩
 refine⟨h3.trans h6,_,_,he,?_⟩
 by_cases h0:(ZC K.pp s a).2.2=0
 ·obtain⟨s1,b,e1,hb,hu,hB,hD,hall⟩:=KZ h1 h0
  have hp:=h1.alloc (a:=a) ha
  rw[e1]at h5 hp⊢
  have lu:b<16:=by rw[<-hk.n];exact hb
  have hc:I1 s+1<=I1 s1:=Eg (b:=b) (by simp[lu]) hu hall
  have hc2:=wy s1
  refine .inr (.inr ⟨rfl,by omega,s1,t,hp,h5,h3.trans h6,by omega,lu,by rw[hall b,if_pos rfl],?_⟩)
  obtain⟨y,hy⟩:∃y,s.B[b]? =some y:=⟨_,qao (by rw[h1.bl];exact hb)⟩
  rw[hB,hy,h1.zero b y hu hy]
 ·rcases IY h1 h0 with h|h
  ·exact .inl h
  ·exact .inr (.inl h)
theorem lC.read (hk:qQ K k0)(h:lC K k0 W i b u):
  qaj Tryz.prog 36 #[.pointer K.bv,b] u fun e w'=>∃gc H,e=.returned (.tuple #[.slice (some ⟨gc,0,none⟩) 64 64,()])/\Rd w' w'.heap.size (some ⟨gc,0,none⟩) (Z7 ZO)/\wO K k0 W i b H w'/\H<=gc:=by
 obtain⟨s,t,h1,h2,h3,h4,h5,h6,h7⟩:=h
 refine(Bg hk.vg hk.hold h2 h1.dl b (by rw[hk.n];exact h5)).mono ?_
 rintro e w' ⟨gc,bb,he,hb,-,hr,h8,h9⟩
 rw[h7]at hb
 cases hb
 obtain⟨P,g1,g2⟩:=h2
 exact⟨gc,u.heap.size,he,hr,⟨s,t,P,h1,(IZ K k0 s t).out P u w' g1 (fun q hq=>h8.block q (g2 q hq).2) h8.size,g2,h8.size,h3.trans (h8.mono h3.size),h4,h5,h6,h7⟩,h9⟩
theorem wO.size (h:wO K k0 W i b H u):H<=u.heap.size:=by
 obtain⟨s,t,P,h1,g1,g2,hH,-⟩:=h
 exact hH
theorem wO.later (h:wO K k0 W i b H u)(hb:qai u.heap.size u w'):wO K k0 W i b H w':=by
 obtain⟨s,t,P,h1,g1,g2,hH,h3,h4⟩:=h
 exact⟨s,t,P,h1,(IZ K k0 s t).out P u w' g1 (fun q hq=>hb.block q (by have:=(g2 q hq).2;omega)) hb.size,g2,qak hH hb.size,h3.trans (hb.mono h3.size),h4⟩
theorem wO.write (hk:qQ K k0)(h:wO K k0 W i b H u){q c:Nat}{l:List UInt8}(hl:l.length=64)(hr:Rd u u.heap.size (some ⟨q,0,none⟩) (Z7 l)):
  qaj Tryz.prog 43 #[.pointer K.bv,b,.slice q 64 c] u fun e w'=>e=.returned (.int .i64 0)/\ST2 K k0 W (i+1) w'/\Kept (· <H) u w':=by
 obtain⟨s,t,P,h1,g1,g2,hH,h3,h4,h5,h6,h7⟩:=h
 have hw:Za K.g K.pp s (b:Int) l=(TK K.pp s s.m b l,0):=by
  unfold Za
  rw[if_pos ⟨by omega,by rw[hk.n];omega⟩,if_pos hl,Int.toNat_natCast,if_pos h6]
 have hp:=h1.write (b:Int) l
 refine(XO (A':=K.two (Za K.g K.pp s (b:Int) l).1 t) (RN _ _ _ _ _ _) g1 (fun q hq=>Nat.lt_of_lt_of_le (g2 q hq).2 hH) (fun P1 g3 g4=>XO (QE K t) g3 g4 (fun P2 g5 _=>MU hk.vg g5 h1 (b:Int) (some ⟨q,0,none⟩) 64 c l hl hr))).mono ?_
 rintro e w' ⟨he,P',k1,k2,k3⟩
 rw[hw]at he k1 hp
 refine⟨he,⟨_,t,hp,⟨P',k1,fun q hq=>⟨?_,(k3 q hq).2⟩⟩,h3.trans (k2.below (fun q hq=>(g2 q hq).1) h3.size),h4⟩,⟨k2.os,k2.tape,k2.output,k2.size,fun q hq hn=>k2.block q hq (fun hp=>hn (g2 q hp).2)⟩⟩
 rcases(k3 q hq).1 with h|h
 ·exact(g2 q h).1
 ·exact qak h3.size h
end
end
end Go.Proofs.YtmehhgfbnfbnaaaGreat.Y7

namespace Go.Proofs.YtmehhgfbnfbnaaaGreat.Y7
open Go.RowKit Zc Meta Apart
section
variable {W u:qae}{bv:Nat}
theorem iD:VG 130 6 4 4:=⟨⟨by decide,by decide,by decide,by decide,by decide,by decide,by decide,by decide,by decide⟩,by decide⟩
def ZK(bv b bj bm bw c:Nat)(A:Option Addr):VK:=⟨130,6,4,4,bv,b,bj,bm,bw,c,.pointer none,A,false,fun _=>ZO⟩
theorem Bn{B B':Nat}{A:TL}{w:qae}(h:Now B A w)(hB:B'<=B):Now B' A w:=by
 obtain⟨P,h1,h2⟩:=h
 exact⟨P,h1,fun i hi=>⟨qak hB (h2 i hi).1,(h2 i hi).2⟩⟩
def qR(W:qae)(bv:Nat)(u:qae):Prop:=qai W.heap.size W u/\∃(b bj bm c:Nat)(A:Option Addr)(k0:Dk Sx),(∀bw,qQ (ZK bv b bj bm bw c A) k0)/\Now W.heap.size (star ((ZK bv b bj bm 0 c A).mH (s0 130 6 4 4)) (ZD (ZK bv b bj bm 0 c A) k0)) u
theorem qR.later {w':qae}(h:qR W bv u)(hb:qai u.heap.size u w'):qR W bv w':=by
 obtain⟨h0,b,bj,bm,c,A,k0,h1,h2⟩:=h
 exact⟨h0.trans (hb.mono h0.size),b,bj,bm,c,A,k0,h1,h2.below ((QG _ _).star (RN _ _ _ _ _ _)) hb⟩
theorem Bl(h:qai W.heap.size W u):qaj Tryz.prog 16 #[.agg #[.int .i64 130,.int .i64 6,.int .i64 4,.int .i64 4]] u fun e w'=>∃b bv,e=.returned (.tuple #[.pointer (some ⟨b,0,none⟩),.pointer (some ⟨bv,0,none⟩),true])/\qR W bv w':=by
 refine(K5 iD u).mono ?_
 rintro e w' ⟨b,bv,bj,bm,S',k',x,A,c,L,he,h1,h2,h3,h4,h5,h6,h7,h8,h9,h10,h11⟩
 refine⟨b,bv,he,h.trans (h11.mono h.size),b,bj,bm,c,A,k',fun bw=>⟨iD,rfl,Em h6 h7⟩,Bn (El h1 h2 h3 h5 h9 h10) h.size⟩
theorem qP(h:qR W bv u):qaj Tryz.prog 18 #[.agg #[.int .i64 130,.int .i64 6,.int .i64 4,.int .i64 4]] u fun e w'=>∃K k0,e=.returned (.pointer (some ⟨K.bw,0,none⟩))/\bv=K.bv/\qQ K k0/\ST K k0 W w':=by
 obtain⟨h0,b,bj,bm,c,A,k0,h1,h2⟩:=h
 refine(Ej iD u).mono ?_
 rintro e w' ⟨bw,y,he,hr,hb⟩
 obtain⟨h5,h6⟩:=wD (K:=ZK bv b bj bm bw c A) (s:=s0 130 6 4 4) (t:=s0 130 6 4 4) (RN _ _ _ _ _ _) h2 h0.size hb hr
 exact⟨ZK bv b bj bm bw c A,k0,he,rfl,h1 bw,s0 130 6 4 4,lF iD,h5,h0.trans h6⟩
theorem FL{g:Nat}{l:List UInt8}(h:Bk u g 5 (Z7 l))(hl:l.length=64):Rd u u.heap.size (some ⟨g,0,none⟩) (Z7 l):=by
 have:=h.rd 64 0
 rwa[List.drop_zero,List.take_of_length_le (by rw[Z5];omega)]at this
theorem Bj{a:VA}(h:Eo W a):(Tryz.prog.info? 43).map (·.size)=some (ZQ a).toArray.size:=by
 rw[List.size_toArray,QF h]
 kernel_rfl
theorem lG(l:List VA)(A0:Option Addr)(n c a:Nat)(W:qae)(hn:l.length=n)(hc:n<=c)(hr:Rd W W.heap.size A0 (SS l))(ho:∀x∈l,Eo W x)(ha:a<65536):
  qaj Tryz.prog 7 #[.slice A0 n c,.int .u16 a] W fun e w'=>e=.returned (.bool true)/\qai W.heap.size W w':=by
 have HFE:Hid (∀u:qae,qai W.heap.size W u->qaj Tryz.prog 20 #[.slice A0 n c] u fun e w'=>∃m,e=.returned (.slice A0 m c)/\u=w'/\m<=n/\m<=100/\∀q x,q<m->l[q]? =some x->x.b.length<=200):=χ (fun u hu=>wC l A0 n c u hn hc ((hr.below hu).more hu.size) ho)
 have HBS:Hid (∀u:qae,qai W.heap.size W u->qaj Tryz.prog 16 #[.agg #[.int .i64 130,.int .i64 6,.int .i64 4,.int .i64 4]] u fun e w'=>∃b bv,e=.returned (.tuple #[.pointer (some ⟨b,0,none⟩),.pointer (some ⟨bv,0,none⟩),true])/\qR W bv w'):=χ (fun u hu=>Bl hu)
 have HNS:Hid (∀(u:qae)(bv:Nat),qR W bv u->qaj Tryz.prog 18 #[.agg #[.int .i64 130,.int .i64 6,.int .i64 4,.int .i64 4]] u fun e w'=>∃K k0,e=.returned (.pointer (some ⟨K.bw,0,none⟩))/\bv=K.bv/\qQ K k0/\ST K k0 W w'):=χ (fun u bv hu=>qP hu)
 have HN:=χ hn
 have HC:=χ hc
 have HR:=χ hr
 have HO:=χ ho
 have HA:=χ ha
 clear hn hc hr ho ha
 go_enter Tryz.func7,Tryz.ntmps7
 go_upto_region 2 with(go_at_call 15;(with_reducible refine(Ei _).mono ?_);rintro e w1 ⟨he,hb⟩;obtain rfl:=he;have HB:=χ hb;clear hb)
 go_upto_region 3 with(first|(go_at_call 17;(with_reducible refine(Qr _).mono ?_);rintro e w2 ⟨he,hb⟩;obtain rfl:=he;replace HB:=χ (HB.out.trans (hb.mono HB.out.size));clear hb)|(go_at_call 16;(with_reducible refine(HBS.out _ HB.out).mono ?_);rintro e w3 ⟨b,bv,he,hs⟩;obtain rfl:=he;have qO:=χ hs;clear hs HB HBS))
 go_upto_region 6 with(first|(go_at_call 17;(with_reducible refine(Qr _).mono ?_);rintro e w4 ⟨he,hb⟩;obtain rfl:=he;replace qO:=χ (qO.out.later hb);clear hb)|(go_at_call 18;(with_reducible refine(HNS.out _ _ qO.out).mono ?_);rintro e w5 ⟨K,k0,he,hbv,lD,hs⟩;obtain rfl:=he;have HS:=χ hs;have HP:=χ lD;subst hbv;clear hs lD qO HNS))
 go_upto_region 7 with(go_at_call 20;(with_reducible refine(HFE.out _ HS.out.below).mono ?_);rintro e w6 ⟨m,he,hw,hm1,hm2,hfl⟩;obtain rfl:=he;subst hw;have mG:=χ hfl;clear hfl HFE)
 go_loopw [11,12,31] (fun _ _ kc wr=>∃k:Nat,kc=.int .i64 k/\k<=m/\Hid (ST K k0 W wr)) (fun _ _ kc _=>m-(intOf kc).toNat)
 case atStart=>exact⟨0,rfl,qam _,HS⟩
 case round=>
  clear HS
  obtain⟨k,rfl,hk,HS⟩:=hrel
  by_cases hlt:k<m
  ·have hln:k<n:=by omega
   obtain⟨x,hx⟩:∃x,l[k]? =some x:=⟨_,qao (by rw[HN.out];exact hln)⟩
   have hox:Eo W x:=HO.out x (qaf hx)
   obtain⟨b,o,hA,hb⟩:=Y3 HR.out (by rw[Ri HO.out,HN.out];omega)
   have HAA:=χ hA
   subst hA
   have OE:Hid (wr.rangeAt b (o+k*20) (ZQ x)):=χ (Bi (HR.out.below HS.out.below) HO.out hx)
   have HDO:Hid (∀u:qae,ST K k0 W u->qaj Tryz.prog 27 #[.pointer (some ⟨K.bv,0,none⟩),.pointer (some ⟨K.bw,0,none⟩),.agg (ZQ x).toArray] u fun e w'=>e=.returned (.bool true)/\ST K k0 W w'):=χ (fun u hu=>ST.does HP.out hu x hox (mG.out k x hlt hx))
   have VL:=χ (wB x)
   have UU:=χ (Bj hox)
   have K4:Hid ((ZQ x).length=20):=χ (QF hox)
   have HZ0:Hid ((ZQ x)[0]? =some (.int .u8 x.k)):=χ rfl
   have Wz:(k:Int)<(m:Int):=by omega
   have h00:(0:Int)<=(k:Int):=by omega
   have hwk:IntKind.i64.wrap ((k:Int)+1)=((k+1:Nat):Int):=by rw[IntKind.wrap_i64];omega
   obtain⟨r,hr⟩:∃r:Nat,x.k%13=r:=⟨_,rfl⟩
   have hkr:(x.k:Int)%13=(r:Int):=by omega
   have qN:r<13:=by omega
   clear hx hox hr hb hln
   generalize ZQ x=cx at*
   generalize x.k=xk at*
   go_upto_region 9 with(first|(refine qan rfl 43 (.tmp 33) rfl b (o+k*20) rfl cx _ OE.out Tryz.underlying43 rfl UU.out ?_)|(refine wpList_store_mid rfl 43 (.tmp 11) (.tmp 34) rfl wr.heap.size 0 cx.toArray rfl rfl (Qq (w:=wr) (xs:=["",(),.int .u16 0,"",.slice none 0 0,"","",(),(),(),(),(),(),(),(),(),(),(),(),.int .u64 0]) K4.out) UU.out (all_oneCell_toArray VL.out) ?_;have HB3:=χ (Meta.below_setCells (Nat.le_refl _) cx.toArray.toList 0 (ZZ wr (.cells #["",(),.int .u16 0,"",.slice none 0 0,"","",(),(),(),(),(),(),(),(),(),(),(),(),.int .u64 0] 43)));have HS2:=χ (HS.out.later HB3.out);have OA:=χ (N9 (w:=wr) (e:=43) (xs:=["",(),.int .u16 0,"",.slice none 0 0,"","",(),(),(),(),(),(),(),(),(),(),(),(),.int .u64 0]) K4.out);generalize ((wr.alloc (.cells #["",(),.int .u16 0,"",.slice none 0 0,"","",(),(),(),(),(),(),(),(),(),(),(),(),.int .u64 0] 43)).setCells wr.heap.size 0 cx.toArray.toList)=w2 at*))
   clear HB3 HS OE
   generalize wr.heap.size=gx at*
   have z0:=(OA.out.cell 0).trans HZ0.out
   have HA2:=χ (Yp OA.out)
   by_cases hcase:r<6\/r=12
   ·have h6:r<6\/(¬ r<6/\r=12):=by omega
    rcases h6 with h6|⟨h6,h12⟩
    ·have e1:(r:Int)<6:=by omega
     clear hcase h6 qN
     go_wp2_with (first|(refine qan rfl 43 (.tmp 11) rfl gx 0 rfl cx _ HA2.out Tryz.underlying43 rfl UU.out ?_)|(go_at_call 27;(with_reducible refine(HDO.out _ HS2.out).mono ?_);rintro e w4 ⟨he,hs⟩;obtain rfl:=he;have mF:=χ hs;clear hs z0))
     go_roundw
     case rel=>exact⟨k+1,by first|rfl|(congr 1),hlt,mF⟩
     case measure=>simp[intOf];omega
    ·subst h12
     clear hcase h6 qN
     go_wp2_with (first|(refine qan rfl 43 (.tmp 11) rfl gx 0 rfl cx _ HA2.out Tryz.underlying43 rfl UU.out ?_)|(go_at_call 27;(with_reducible refine(HDO.out _ HS2.out).mono ?_);rintro e w4 ⟨he,hs⟩;obtain rfl:=he;have mF:=χ hs;clear hs z0))
     go_roundw
     case rel=>exact⟨k+1,by first|rfl|(congr 1),hlt,mF⟩
     case measure=>simp[intOf];omega
   ·have e1:¬ (r:Int)<6:=by omega
    have e2:¬ (r:Int)=12:=by omega
    have e3:((r:Int)==12)=false:=by simp;omega
    clear hcase qN
    go_wp2
    go_roundw
    case rel=>exact⟨k+1,by first|rfl|(congr 1),hlt,HS2⟩
    case measure=>simp[intOf];omega
  ·obtain rfl:k=m:=by omega
   have HS2:Hid (ST2 K k0 W 0 wr):=χ HS.out.two
   have wz:Hid (∀(u:qae)(i:Nat),ST2 K k0 W i u->qaj Tryz.prog 39 #[.pointer (some ⟨K.bv,0,none⟩),.int .u16 a] u fun e w'=>qai W.heap.size W w'/\∃(b er:Nat),e=.returned (.tuple #[.int .i64 b,er])/\(er=4\/er=5\/(er=0/\i<16/\lC K k0 W i b w'))):=χ (fun u i hu=>hu.alloc HP.out HA.out)
   have mE:Hid (∀(u:qae)(i b:Nat),lC K k0 W i b u->qaj Tryz.prog 36 #[.pointer (some ⟨K.bv,0,none⟩),.int .i64 b] u fun e w'=>∃gc H,e=.returned (.tuple #[.slice (some ⟨gc,0,none⟩) 64 64,()])/\Rd w' w'.heap.size (some ⟨gc,0,none⟩) (Z7 ZO)/\wO K k0 W i b H w'/\H<=gc):=χ (fun u i b hu=>hu.read HP.out)
   have wN:Hid (∀(u:qae)(i b H q:Nat),wO K k0 W i b H u->Bk u q 5 (Z7 (qah 64 9))->qaj Tryz.prog 43 #[.pointer (some ⟨K.bv,0,none⟩),.int .i64 b,.slice (some ⟨q,0,none⟩) 64 64] u fun e w'=>e=.returned (.int .i64 0)/\ST2 K k0 W (i+1) w'/\Kept (· <H) u w'):=χ (fun u i b H q hu hq=>hu.write HP.out (by simp) (FL hq (by simp)))
   have mD:Hid (∀u:qae,qaj Tryz.prog 37 #[""] u fun e w'=>∃g,e=.returned (.slice (some ⟨g,0,none⟩) 64 64)/\Bk w' g 5 (Z7 ZO)/\u.heap.size<=g/\qai u.heap.size u w'):=χ (fun u=>Tt 0 u)
   have Qp:Hid (∀u:qae,qaj Tryz.prog 37 #[.int .u8 9] u fun e w'=>∃g,e=.returned (.slice (some ⟨g,0,none⟩) 64 64)/\Bk w' g 5 (Z7 (qah 64 9))/\u.heap.size<=g/\qai u.heap.size u w'):=χ (fun u=>Tt 9 u)
   obtain⟨SZ,hSZ⟩:∃SZ,Vk ZO=.string SZ:=⟨_,rfl⟩
   have Eh:Hid (∀(u:qae)(g:Nat),Rd u u.heap.size (some ⟨g,0,none⟩) (Z7 ZO)->(convert 37 9 (.slice (some ⟨g,0,none⟩) 64 64)).run Tryz.prog u=.ok (.string SZ) u):=χ (fun u g hu=>by rw[<-hSZ];exact Z9.WK (by decide) hu)
   have MW:Hid (∀(u:qae)(g:Nat),Bk u g 5 (Z7 ZO)->Rd u u.heap.size (some ⟨g,0,none⟩) (Z7 ZO)):=χ (fun u g hu=>FL hu (by decide))
   clear hSZ HS HR HO HN HC HA HP mG
   go_upto_region 14 with fail
   go_loopw [13,14,15,16,49] (fun _ _ _ _ kc wr=>∃i:Nat,kc=.int .i64 i/\i<=16/\Hid (ST2 K k0 W i wr)) (fun _ _ _ _ kc _=>17-(intOf kc).toNat)
   case atStart=>exact⟨0,rfl,by decide,HS2⟩
   case round=>
    clear HS2
    obtain⟨i,rfl,hi,HS⟩:=hrel
    have Wz:(i:Int)<17:=by omega
    have h00:(0:Int)<=(i:Int):=by omega
    have hwk:IntKind.i64.wrap ((i:Int)+1)=((i+1:Nat):Int):=by rw[IntKind.wrap_i64];omega
    go_upto_region 16 with(go_at_call 39;(with_reducible refine(wz.out _ _ HS.out).mono ?_);rintro e w1 ⟨hb,b,er,he,hcs⟩;obtain rfl:=he;have HB:=χ hb;have iC:=χ hcs;clear hb hcs HS)
    rcases iC.out with h|h|⟨h,fQ,hs⟩
    ·subst h
     clear iC
     go_wp2
     go_ret
     exact⟨rfl,HB.out⟩
    ·subst h
     clear iC
     go_wp2
     go_ret
     exact⟨rfl,HB.out⟩
    ·subst h
     have mF:=χ hs
     clear hs HB iC
     go_upto_region 19 with(go_at_call 36;(with_reducible refine(mE.out _ _ _ mF.out).mono ?_);rintro e w2 ⟨gc,H,he,hr,hs,hgc⟩;obtain rfl:=he;have OD:=χ hr;have Bz:=χ hs;have HGC:=χ hgc;clear hr hs hgc mF)
     have hS0:(fun u:qae=>Rd u u.heap.size (some ⟨gc,0,none⟩) (Z7 ZO)) w2.drew:=(OD.out.below (qai.refl w2.heap.size w2).drew).more (qai.refl w2.heap.size w2).drew.size
     have fP:=χ (Bz.out.later (qai.refl _ w2).drew)
     refine wp_region_held_drew (S:=fun u=>(fun u:qae=>Rd u u.heap.size (some ⟨gc,0,none⟩) (Z7 ZO)) u) (by kernel_rfl) hS0 (fun hHeld=>?_)
     clear hS0 Bz OD
     generalize w2.drew=wd at*
     refine tk 0 ?_ (y:=.inl ⟨by rfl,?hyz0⟩) (s:=by exact hHeld) (h:=?abb)
     case hyz0=>(intro u hu;have q0:=Eh.out _ _ hu;clear hu;go_simp<;>with_reducible rfl)
     try simp only[qag,qaa,qab,qac]
     refine tk 1 ?_ (y:=.inl ⟨by rfl,?hyz1⟩) (s:=by exact hHeld) (h:=?abd)
     case hyz1=>(intro u hu;have q0:=Eh.out _ _ hu;clear hu;go_simp<;>with_reducible rfl)
     try simp only[qag,qaa,qab,qac]
     refine tk 2 ?_ (y:=.inl ⟨by rfl,?hyz2⟩) (s:=by exact hHeld) (h:=?abe)
     case hyz2=>(intro u hu;have q0:=Eh.out _ _ hu;clear hu;go_simp<;>with_reducible rfl)
     try simp only[qag,qaa,qab,qac]
     refine tk 3 ?_ (y:=.inl ⟨by rfl,?hyz3⟩) (s:=by exact hHeld) (h:=?abf)
     case hyz3=>(intro u hu;have q0:=Eh.out _ _ hu;clear hu;go_simp<;>with_reducible rfl)
     try simp only[qag,qaa,qab,qac]
     refine tk 4 ?_ (y:=.inl ⟨by rfl,?hyz4⟩) (s:=by exact hHeld) (h:=?abg)
     case hyz4=>(intro u hu;have q0:=Eh.out _ _ hu;clear hu;go_simp<;>with_reducible rfl)
     try simp only[qag,qaa,qab,qac]
     refine rd 5 (h:=fun K_ hK=>?_)
     go_simp
     (with_reducible refine(mD.out _).mono ?_)
     rintro e w3 ⟨g,he,hbk,hg,hb⟩;obtain rfl:=he
     have HGG:Hid (H<=g):=χ (qak fP.out.size hg)
     clear hg
     have mr:=χ (fP.out.later hb)
     go_simp
     have hS5:(fun u:qae=>Rd u u.heap.size (some ⟨gc,0,none⟩) (Z7 ZO)) w3:=(hHeld.below hb).more hb.size
     refine hK.out _ _ hS5 (fun Z4=>?_)
     clear hK K_ fP hb hHeld
     refine Rh (T:=fun u=>(fun u:qae=>Rd u u.heap.size (some ⟨gc,0,none⟩) (Z7 ZO)) u/\Bk u g 5 (Z7 ZO)) (fun u h=>h.1) _ _ _ _ ?_
     have hHeld:(fun u:qae=>Rd u u.heap.size (some ⟨gc,0,none⟩) (Z7 ZO)) w3/\Bk w3 g 5 (Z7 ZO):=⟨Z4,hbk⟩
     clear Z4 hbk hS5
     refine tk 6 ?_ (y:=.inl ⟨by rfl,?hyz6⟩) (s:=by exact hHeld) (h:=?abh)
     case hyz6=>(intro u hu;have q0:=Eh.out _ _ (MW.out _ _ hu.2);clear hu;go_simp<;>with_reducible rfl)
     try simp only[qag,qaa,qab,qac]
     refine tk 7 ?_ (y:=.inl ⟨by rfl,?hyz7⟩) (s:=by exact hHeld) (h:=?abj)
     case hyz7=>(intro u hu;have q0:=Eh.out _ _ (MW.out _ _ hu.2);clear hu;go_simp<;>with_reducible rfl)
     try simp only[qag,qaa,qab,qac]
     refine tk 8 ?_ (y:=.inl ⟨by rfl,?hyz8⟩) (s:=by exact hHeld) (h:=?abk)
     case hyz8=>(intro u hu;have q0:=Eh.out _ _ (MW.out _ _ hu.2);clear hu;go_simp<;>with_reducible rfl)
     try simp only[qag,qaa,qab,qac]
     refine tk 9 ?_ (y:=.inl ⟨by rfl,?hyz9⟩) (s:=by exact hHeld) (h:=?abl)
     case hyz9=>(intro u hu;have q0:=Eh.out _ _ (MW.out _ _ hu.2);clear hu;go_simp<;>with_reducible rfl)
     try simp only[qag,qaa,qab,qac]
     refine tk 10 ?_ (y:=.inl ⟨by rfl,?hyz10⟩) (s:=by exact hHeld) (h:=?aae)
     case hyz10=>(intro u hu;have q0:=Eh.out _ _ (MW.out _ _ hu.2);clear hu;go_simp<;>with_reducible rfl)
     try simp only[qag,qaa,qab,qac]
     refine tk 11 ?_ (y:=.inl ⟨by rfl,?hyz11⟩) (s:=by exact hHeld) (h:=?aaf)
     case hyz11=>(intro u hu;have q0:=Eh.out _ _ (MW.out _ _ hu.2);clear hu;go_simp<;>with_reducible rfl)
     try simp only[qag,qaa,qab,qac]
     refine rd 12 (h:=fun K_ hK=>?_)
     go_simp
     (with_reducible refine(Qp.out _).mono ?_)
     rintro e w4 ⟨q,he,hbk,-,hb⟩;obtain rfl:=he
     have lv:=χ (mr.out.later hb)
     have HBQ:=χ hbk
     go_simp
     have hS6:(fun u:qae=>Rd u u.heap.size (some ⟨gc,0,none⟩) (Z7 ZO)) w4/\Bk w4 g 5 (Z7 ZO):=⟨(hHeld.1.below hb).more hb.size,hHeld.2.below hb hHeld.2.lt⟩
     refine hK.out _ _ hS6 (fun Z4=>?_)
     clear hK K_ mr hb hHeld hbk
     have hHeld:=Z4
     clear Z4 hS6
     try simp only[qag,qaa,qab,qac]
     refine rd 13 (h:=fun K_ hK=>?_)
     go_simp
     (with_reducible refine(wN.out _ _ _ _ _ lv.out HBQ.out).mono ?_)
     rintro e w5 ⟨he,hs,hb⟩;obtain rfl:=he
     have fO:=χ hs
     go_simp
     have hS7:(fun u:qae=>Rd u u.heap.size (some ⟨gc,0,none⟩) (Z7 ZO)) w5/\Bk w5 g 5 (Z7 ZO):=⟨MV hHeld.1 hb (fun x hx=>by cases hx;have:=HGC.out;show ¬ gc<H;omega),(hb.block g hHeld.2.lt (by have:=HGG.out;show ¬ g<H;omega)).trans hHeld.2⟩
     refine hK.out _ _ hS7 (fun Z4=>?_)
     clear hK K_ lv hb hHeld hs
     have hHeld:=Z4
     clear Z4 hS7
     try simp only[qag,qaa,qab,qac]
     refine tk 14 ?_ (y:=.inl ⟨by rfl,?hyz14⟩) (s:=by exact hHeld) (h:=?aag)
     case hyz14=>(intro u hu;have q0:=Eh.out _ _ (MW.out _ _ hu.2);clear hu;go_simp<;>with_reducible rfl)
     try simp only[qag,qaa,qab,qac]
     refine tk 15 ?_ (y:=.inl ⟨by rfl,?hyz15⟩) (s:=by exact hHeld) (h:=?aah)
     case hyz15=>(intro u hu;have q0:=Eh.out _ _ (MW.out _ _ hu.2);clear hu;go_simp<;>with_reducible rfl)
     try simp only[qag,qaa,qab,qac]
     refine wpAnyH_done (by kernel_rfl) ?_ _
     clear hHeld
     go_wp2
     go_roundw
     case rel=>exact⟨i+1,by first|rfl|(congr 1),fQ,fO⟩
     case measure=>simp[intOf];omega
end
end Go.Proofs.YtmehhgfbnfbnaaaGreat.Y7
