import Derived.Test.YtmehhgfbnfbnaaaGreatQSuper
import Derived.Test.YtmehhgfbnfbnaaaGreatQInternB
import Derived.Test.YtmehhgfbnfbnaaaGreatQInodeA
import Derived.Test.YtmehhgfbnfbnaaaGreatQBits
import Derived.Test.YtmehhgfbnfbnaaaGreatQTk
import Derived.Deep.MidRow
import Derived.Test.YtmehhgfbnfbnaaaGreatQF
import Derived.Laws.OwnMore
set_option maxRecDepth 100000
set_option maxHeartbeats 25600000
open List renaming replicate->qaa,eq_of_mem_replicate->qab,replicate_succ->qac,mem_of_getElem?->qad,getElem?_eq_some_iff->qae,take_of_length_le->qaf,take_append_of_le_length->qai,getD_eq_getElem?_getD->qaj,getElem?_eq_getElem->qak,mem_map->qal,getElem?_eq_none->qam
open Go renaming Value->qag
open UInt8 renaming ofNat->qah
namespace Go.Proofs.YtmehhgfbnfbnaaaGreat.Meta
open Go.Proofs.YtmehhgfbnfbnaaaGreat
open Go.RowKit
section
variable {l:List Z9.ZC}
structure Met where
 rows:List Z8.Rw
 own:List Int
 used:List UInt8
 ino:List Z9.ZC
def Met.z:Met:=⟨[],[],[],[]⟩
theorem Met.ext' {a b:Met}(h1:a.rows=b.rows)(h2:a.own=b.own)(h3:a.used=b.used)(h4:a.ino=b.ino):a=b:=by
 cases a;cases b;simp_all
structure Rc(m:Met):Prop where
 rows:Z8.zy m.rows
 own:∀x∈m.own,-9223372036854775808<=x/\x<=9223372036854775807
 ino:∀n∈m.ino,Z9.YP n
structure Geo where
 j:Int
 i:Int
 g:Int
 p:Int
def Geo.Ok (G:Geo):Prop:=ZG.Valid G.j G.i G.g G.p
structure Right(G:Geo)(m:Met):Prop where
 YV:G.Ok
 rows:Z8.Right m.rows
 OV:(m.own.length:Int)=G.g
 own:∀x∈m.own,0<=x/\x<=16
 NY:m.used.length=64
 used:∀k:Nat,G.g*G.p<=(k:Int)->k<512->Bits.hb m.used k=false
 Sk:(m.ino.length:Int)=G.i
 ino:∀n∈m.ino,Z9.Right n
noncomputable def ZP(G:Geo)(m:Met):Bool:=Z9.Sj (Right G m)
theorem ZW{G:Geo}{m:Met}(h:Right G m):ZP G m=true:=Z9.VD h
theorem ZN{G:Geo}{m:Met}(h:¬ Right G m):ZP G m=false:=Z9.WO h
def XB(l:List Int):List UInt8:=l.map fun x=>qah x.toNat
theorem X0(l:List Int):(XB l).length=l.length:=by simp[XB]
theorem uI{l m:List Int}(hl:∀x∈l,0<=x/\x<=16)(hm:∀x∈m,0<=x/\x<=16)(h:XB l=XB m):l=m:=by
 induction l generalizing m with
 |nil=>
  cases m with
  |nil=>rfl
  |cons y m=>simp[XB]at h
 |cons x l ih=>
  cases m with
  |nil=>simp[XB]at h
  |cons y m=>
   have h1:qah x.toNat=qah y.toNat/\XB l=XB m:=by simpa[XB]using h
   have hx:=hl x (by simp)
   have hy:=hm y (by simp)
   have h2:=congrArg UInt8.toNat h1.1
   simp at h2
   have e:x=y:=by omega
   rw[e,ih (fun z hz=>hl z (by simp[hz])) (fun z hz=>hm z (by simp[hz])) h1.2]
def pairs:List Z9.ZC->List (List UInt8)
 |a::b::l=>(Z9.ZK a++Z9.ZK b)::pairs l
 |[a]=>[Z9.ZK a]
 |[]=>[]
theorem Ib{i:Nat}(hl:l.length%2=0)(h:i<l.length):∃a b,l[2*(i/2)]? =some a/\l[2*(i/2)+1]? =some b/\(pairs l)[i/2]? =some (Z9.ZK a++Z9.ZK b):=by
 induction l using pairs.induct generalizing i with
 |case1 a b l ih=>
  by_cases h2:i<2
  ·have e:i/2=0:=by omega
   rw[e]
   exact⟨a,b,rfl,rfl,rfl⟩
  ·have hl':l.length%2=0:=by simp at hl;omega
   have hi:i-2<l.length:=by simp at h;omega
   obtain⟨c,d,h3,h4,h5⟩:=ih (i:=i-2) hl' hi
   have e:i/2=(i-2)/2+1:=by omega
   have e2:2*(i/2)=2*((i-2)/2)+1+1:=by omega
   rw[e2,e]
   exact⟨c,d,h3,h4,h5⟩
 |case2 a=>simp at hl
 |case3=>simp at h
theorem Uo(hl:l.length%2=0):(pairs l).length=l.length/2:=by
 induction l using pairs.induct with
 |case1 a b l ih=>
  show(pairs l).length+1=(l.length+1+1)/2
  rw[ih (by simp at hl;omega)]
  omega
 |case2 a=>simp at hl
 |case3=>rfl
theorem zw(hl:l.length%2=0)(ho:∀n∈l,Z9.YP n):∀s∈pairs l,s.length=64:=by
 induction l using pairs.induct with
 |case1 a b l ih=>
  intro s hs
  have hs:s=Z9.ZK a++Z9.ZK b\/s∈pairs l:=by simpa[pairs]using hs
  rcases hs with rfl|hs
  ·rw[List.length_append,Z9.YL (ho a (by simp)),Z9.YL (ho b (by simp))]
  ·exact ih (by simp at hl;omega) (fun n hn=>ho n (by simp[hn])) s hs
 |case2 a=>simp at hl
 |case3=>intro s hs;simp[pairs]at hs
theorem NW{a b:Z9.ZC}(ha:Z9.Right a)(oa:Z9.YP a)(hb:Z9.Right b)(ob:Z9.YP b)(h:Z9.ZK a=Z9.ZK b):a=b:=by
 have h1:=Z9.J8 ha oa
 have h2:=Z9.J8 hb ob
 rw[h,h2]at h1
 injection h1 with h1
 exact h1.symm
theorem zu{m:List Z9.ZC}(hl:l.length%2=0)(hlen:l.length=m.length)(rl:∀n∈l,Z9.Right n)(ol:∀n∈l,Z9.YP n)(rm:∀n∈m,Z9.Right n)(om:∀n∈m,Z9.YP n)(h:pairs l=pairs m):l=m:=by
 induction l using pairs.induct generalizing m with
 |case1 a b l ih=>
  match m,hlen with
  |c::d::m,hlen=>
   have h1:Z9.ZK a++Z9.ZK b=Z9.ZK c++Z9.ZK d/\pairs l=pairs m:=by simpa[pairs]using h
   obtain⟨h2,h3⟩:=List.append_inj h1.1 (by rw[Z9.YL (ol a (by simp)),Z9.YL (om c (by simp))])
   rw[NW (rl a (by simp)) (ol a (by simp)) (rm c (by simp)) (om c (by simp)) h2,NW (rl b (by simp)) (ol b (by simp)) (rm d (by simp)) (om d (by simp)) h3,
    ih (by simp at hl;omega) (by simpa using hlen) (fun n hn=>rl n (by simp[hn])) (fun n hn=>ol n (by simp[hn])) (fun n hn=>rm n (by simp[hn])) (fun n hn=>om n (by simp[hn])) h1.2]
 |case2 a=>simp at hl
 |case3=>
  have:m=[]:=List.eq_nil_of_length_eq_zero (by simpa using hlen.symm)
  rw[this]
def secs(m:Met):List (List UInt8):=Z8.bytesOf m.rows::Ya (XB m.own) 64::m.used::pairs m.ino
theorem Right.even {G:Geo}{m:Met}(h:Right G m):m.ino.length%2=0:=by
 have h1:=h.Sk
 have h2:=h.YV.i3
 omega
theorem Right.jB {G:Geo}{m:Met}(h:Right G m):m.own.length<=64:=by
 have h1:=h.OV
 have h2:=h.YV.g2
 omega
theorem Right.R5 {G:Geo}{m:Met}(h:Right G m):m.ino.length<=64:=by
 have h1:=h.Sk
 have h2:=h.YV.i2
 omega
theorem Vf{G:Geo}{m:Met}(h:Right G m):((secs m).length:Int)=3+G.i/2:=by
 have h1:=Uo h.even
 have h2:=h.Sk
 show(((pairs m.ino).length+1+1+1:Nat):Int)=_
 rw[h1]
 omega
theorem Ku{G:Geo}{m:Met}(h:Right G m)(ho:Rc m):∀s∈secs m,s.length=64:=by
 intro s hs
 have hs:s=Z8.bytesOf m.rows\/s=Ya (XB m.own) 64\/s=m.used\/s∈pairs m.ino:=by simpa[secs]using hs
 rcases hs with rfl|rfl|rfl|hs
 ·rw[Z8.VC,h.rows.len]
 ·exact Xw _ _ (by rw[X0];exact h.jB)
 ·exact h.NY
 ·exact zw h.even ho.ino s hs
theorem uH{a b:List UInt8}(hl:a.length=b.length)(h:Ya a 64=Ya b 64):a=b:=by
 unfold Ya at h
 exact(List.append_inj h hl).1
theorem uG{G:Geo}{m n:Met}(hm:Right G m)(om:Rc m)(hn:Right G n)(on:Rc n)(h:secs m=secs n):m=n:=by
 injection h with h1 h2
 injection h2 with h2 h3
 injection h3 with h3 h4
 have e1:=hm.OV
 have e2:=hn.OV
 have e3:=hm.Sk
 have e4:=hn.Sk
 exact Met.ext' (Z8.bytes_inj hm.rows om.rows hn.rows on.rows h1) (uI hm.own hn.own (uH (by rw[X0,X0];omega) h2)) h3
  (zu hm.even (by omega) hm.ino om.ino hn.ino on.ino h4)
noncomputable def Ml(G:Geo)(m:Met):List (List UInt8) × Nat:=if ZP G m then(secs m,0)else([],1)
theorem Wn{G:Geo}{m:Met}(h:Right G m):Ml G m=(secs m,0):=by unfold Ml;rw[ZW h];rfl
theorem Un{G:Geo}{m:Met}(h:¬ Right G m):Ml G m=([],1):=by unfold Ml;rw[ZN h];rfl
noncomputable def Si(G:Geo)(l:List (List UInt8)):Met × Nat:=@dite _ (∃m,Right G m/\Rc m/\secs m=l) (Classical.propDecidable _) (fun h=>(h.choose,0)) fun _=>(.z,140)
theorem Io{G:Geo}{m:Met}(h:Right G m)(ho:Rc m):Si G (secs m)=(m,0):=by
 unfold Si
 have hx:∃n,Right G n/\Rc n/\secs n=secs m:=⟨m,h,ho,rfl⟩
 rw[dif_pos hx]
 have:=hx.choose_spec
 rw[uG this.1 this.2.1 h ho this.2.2]
theorem nu{G:Geo}{m:Met}{l:List (List UInt8)}(h:Right G m)(ho:Rc m)(hl:secs m=l):Si G l=(m,0):=hl▸Io h ho
theorem NV{G:Geo}{l:List (List UInt8)}(h:¬ ∃m,Right G m/\Rc m/\secs m=l):Si G l=(.z,140):=by
 unfold Si
 rw[dif_neg h]
def XC(G:Geo):Met:=⟨qaa 16 .z,qaa G.g.toNat 0,qaa 64 0,qaa G.i.toNat .z⟩
theorem Ip(G:Geo):Rc (XC G):=
 ⟨fun r hr=>by rw[qab hr];exact⟨by decide,by decide,by decide⟩,fun x hx=>by rw[qab hx];decide,fun n hn=>by rw[qab hn];exact .z⟩
theorem Oc(n k:Nat):Bits.hb (qaa n 0) k=false:=by
 unfold Bits.hb
 rw[qaj,List.getElem?_replicate]
 split<;>simp
theorem Oa{G:Geo}(h:G.Ok):Right G (XC G) where
 YV:=h
 rows:={
  len:=by simp[XC]
  fits:=fun i r hr=>by
   have e:r=Z8.Rw.z:=qab (qad hr)
   rw[e]
   rfl
  one:=fun i k r s hr _ h0=>by
   have e:r=Z8.Rw.z:=qab (qad hr)
   rw[e]at h0
   exact absurd rfl h0}
 OV:=by have:=h.g1;simp[XC];omega
 own:=fun x hx=>by rw[qab hx];decide
 NY:=by simp[XC]
 used:=fun k _ _=>Oc 64 k
 Sk:=by have:=h.i1;simp[XC];omega
 ino:=fun n hn=>by rw[qab hn];exact .inl rfl
def ZF:List UInt8:=qaa 64 0
theorem uF:Z9.ZK .z=qaa 32 0:=by decide
theorem ni(k:Nat):pairs (qaa (2*k) .z)=qaa k ZF:=by
 induction k with
 |zero=>rfl
 |succ k ih=>
  have e:2*(k+1)=2*k+1+1:=by omega
  rw[e,qac,qac,qac,<-ih]
  show(Z9.ZK .z++Z9.ZK .z)::_=_
  rw[uF]
  rfl
theorem ve{G:Geo}(h:G.Ok):secs (XC G)=qaa (3+(G.i/2).toNat) ZF:=by
 have h1:=h.i1
 have h2:=h.i2
 have h3:=h.i3
 have h4:=h.g1
 have h5:=h.g2
 have e0:Z8.bytesOf (qaa 16 .z)=ZF:=by decide
 have e1:Ya (XB (qaa G.g.toNat 0)) 64=ZF:=by
  have:XB (qaa G.g.toNat 0)=qaa G.g.toNat 0:=by simp[XB]
  rw[this]
  unfold Ya ZF
  rw[List.length_replicate,List.replicate_append_replicate]
  congr 1
  omega
 have e2:G.i.toNat=2*(G.i/2).toNat:=by omega
 show Z8.bytesOf (qaa 16 .z)::Ya (XB (qaa G.g.toNat 0)) 64::ZF::pairs (qaa G.i.toNat .z)=_
 rw[e0,e1,e2,ni,show 3+(G.i/2).toNat=(G.i/2).toNat+1+1+1 by omega,qac,qac,qac]
end
end Go.Proofs.YtmehhgfbnfbnaaaGreat.Meta

namespace Go.Proofs.YtmehhgfbnfbnaaaGreat.Meta
open Go.Proofs.YtmehhgfbnfbnaaaGreat
open Go.RowKit
section
variable {w w':World}{B i b o B':Nat}{l:List (List UInt8)}{A:Option Addr}{m:Met}{n:Z9.ZC}
def Y3(l:List Z9.ZC):List qag:=l.flatMap Z9.ZX
theorem NZ(n:Z9.ZC)(l:List Z9.ZC):Y3 (n::l)=Z9.ZX n++Y3 l:=by simp[Y3]
theorem J9(l m:List Z9.ZC):Y3 (l++m)=Y3 l++Y3 m:=by simp[Y3]
theorem Y8{l:List Z9.ZC}(ho:∀n∈l,Z9.YP n):(Y3 l).length=l.length*14:=by
 induction l with
 |nil=>rfl
 |cons n l ih=>
  rw[NZ,List.length_append,Z9.Y5 (ho n (by simp)),ih fun m hm=>ho m (by simp[hm]),List.length_cons]
  omega
theorem Tv{l:List Z9.ZC}(ho:∀n∈l,Z9.YP n)(h:l[i]? =some n){j:Nat}{u:qag}(hu:(Z9.ZX n)[j]? =some u):(Y3 l)[i*14+j]? =some u:=by
 induction l generalizing i with
 |nil=>simp at h
 |cons m l ih=>
  have hl:=Z9.Y5 (ho m (by simp))
  rw[NZ]
  cases i with
  |zero=>
   obtain rfl:m=n:=by simpa using h
   have hj:=(qae.1 hu).1
   rw[List.getElem?_append_left (by omega),show 0*14+j=j by omega]
   exact hu
  |succ i=>
   rw[List.getElem?_append_right (by omega),show(i+1)*14+j-(Z9.ZX m).length=i*14+j by omega]
   exact ih (fun k hk=>ho k (by simp[hk])) (by simpa using h)
theorem Yi{l:List Z9.ZC}(h:Rd w B (some ⟨b,o,none⟩) (Y3 l))(ho:∀n∈l,Z9.YP n)(hi:l[i]? =some n):w.rangeAt b (o+i*14) (Z9.ZX n):=by
 intro j u hu
 have hg:=Tv ho hi hu
 rcases h with h|⟨b',o',h1,_,h3⟩
 ·rw[h]at hg;simp at hg
 ·injection h1 with h1
  injection h1 with h1 h2 _
  subst h1 h2
  rw[Nat.add_assoc]
  exact h3 _ u hg
theorem YU{xs:List qag}(h:Rd w B A xs)(hl:0<xs.length):∃b o,A=some ⟨b,o,none⟩/\b<B:=by
 rcases h with h|⟨b,o,h1,h2,_⟩
 ·rw[h]at hl;simp at hl
 ·exact⟨b,o,h1,h2⟩
theorem Yf{l:List Int}(h:Rd w B (some ⟨b,o,none⟩) (Z9.ZM l)){x:Int}(hi:l[i]? =some x):w.cell? ⟨b,o+i,none⟩=some (.int .i64 x):=by
 have hg:(Z9.ZM l)[i]? =some (.int .i64 x):=by simp[Z9.ZM,hi]
 rcases h with h|⟨b',o',h1,_,h3⟩
 ·rw[h]at hg;simp at hg
 ·injection h1 with h1
  injection h1 with h1 h2 _
  subst h1 h2
  exact h3 i _ hg
structure Mem where
 rA:Option Addr
 rc:Nat
 oA:Option Addr
 oc:Nat
 uA:Option Addr
 uc:Nat
 iA:Option Addr
 ic:Nat
def Mem.v (x:Mem)(m:Met):qag:=.agg #[.slice x.rA m.rows.length x.rc,.slice x.oA m.own.length x.oc,.slice x.uA m.used.length x.uc,.slice x.iA m.ino.length x.ic]
structure Wv(w:World)(B:Nat)(x:Mem)(m:Met):Prop where
 rows:Rd w B x.rA (Z8.ZV m.rows)
 own:Rd w B x.oA (Z9.ZM m.own)
 used:Rd w B x.uA (Z6 m.used)
 ino:Rd w B x.iA (Y3 m.ino)
 rc:m.rows.length<=x.rc/\x.rc<=maxLen
 oc:m.own.length<=x.oc/\x.oc<=maxLen
 uc:m.used.length<=x.uc/\x.uc<=maxLen
 ic:m.ino.length<=x.ic/\x.ic<=maxLen
theorem Wv.below {x:Mem}(h:Wv w B x m)(hb:Below B w w'):Wv w' B x m:=
 ⟨h.rows.below hb,h.own.below hb,h.used.below hb,h.ino.below hb,h.rc,h.oc,h.uc,h.ic⟩
theorem Wv.more {x:Mem}(h:Wv w B x m)(hb:B<=B'):Wv w B' x m:=
 ⟨h.rows.more hb,h.own.more hb,h.used.more hb,h.ino.more hb,h.rc,h.oc,h.uc,h.ic⟩
theorem Wv.later {x:Mem}(h:Wv w w.heap.size x m)(hb:Below w.heap.size w w'):Wv w' w'.heap.size x m:=(h.below hb).more hb.size
structure Sc where
 A:Option Addr
 c:Nat
def abW(p:Sc × List UInt8):qag:=.slice p.1.A p.2.length p.1.c
def X3(L:List Sc)(l:List (List UInt8)):List qag:=(L.zip l).map abW
theorem VR{L:List Sc}(h:L.length=l.length):(X3 L l).length=l.length:=by simp[X3,h]
theorem zz(L:List Sc)(l:List (List UInt8)):∀u∈X3 L l,u.oneCell'=true:=by
 intro u hu
 simp only[X3,qal]at hu
 obtain⟨p,_,rfl⟩:=hu
 rfl
theorem N7{L:List Sc}(h:L.length=l.length)(s:Sc)(b:List UInt8):X3 (L++[s]) (l++[b])=X3 L l++[.slice s.A b.length s.c]:=by
 unfold X3
 rw[List.zip_append h,List.map_append]
 rfl
structure Zd(w:World)(B:Nat)(A:Option Addr)(L:List Sc)(l:List (List UInt8)):Prop where
 len:L.length=l.length
 rd:Rd w B A (X3 L l)
 each:∀(i:Nat)(s:Sc)(b:List UInt8),L[i]? =some s->l[i]? =some b->Rd w B s.A (Z6 b)/\b.length<=s.c/\s.c<=maxLen
theorem Zd.below {L:List Sc}(h:Zd w B A L l)(hb:Below B w w'):Zd w' B A L l:=
 ⟨h.len,h.rd.below hb,fun i s b h1 h2=>⟨(h.each i s b h1 h2).1.below hb,(h.each i s b h1 h2).2⟩⟩
theorem Zd.more {L:List Sc}(h:Zd w B A L l)(hb:B<=B'):Zd w B' A L l:=
 ⟨h.len,h.rd.more hb,fun i s b h1 h2=>⟨(h.each i s b h1 h2).1.more hb,(h.each i s b h1 h2).2⟩⟩
theorem Zd.later {L:List Sc}(h:Zd w w.heap.size A L l)(hb:Below w.heap.size w w'):Zd w' w'.heap.size A L l:=(h.below hb).more hb.size
theorem Zd.get {L:List Sc}(h:Zd w B (some ⟨b,o,none⟩) L l){x:List UInt8}(hx:l[i]? =some x):
  ∃s:Sc,L[i]? =some s/\w.cell? ⟨b,o+i,none⟩=some (.slice s.A x.length s.c)/\Rd w B s.A (Z6 x)/\x.length<=s.c/\s.c<=maxLen:=by
 have hi:=(qae.1 hx).1
 obtain⟨s,hs⟩:∃s,L[i]? =some s:=⟨_,qak (by rw[h.len];exact hi)⟩
 refine⟨s,hs,?_,h.each i s x hs hx⟩
 have hg:(X3 L l)[i]? =some (.slice s.A x.length s.c):=by
  unfold X3
  rw[List.getElem?_map,(List.getElem?_zip_eq_some (z:=(s,x))).2 ⟨hs,hx⟩]
  rfl
 rcases h.rd with h0|⟨b',o',h1,_,h3⟩
 ·rw[h0]at hg;simp at hg
 ·injection h1 with h1
  injection h1 with h1 h2 _
  subst h1 h2
  exact h3 i _ hg
theorem Zd.first {L:List Sc}(h:Zd w B A L l)(hl:0<l.length):∃b o,A=some ⟨b,o,none⟩/\b<B:=
 YU h.rd (by rw[VR h.len];exact hl)
theorem Z7{g:Nat}{e:TypeId}{a0 a1 a2 a3:qag}(h:Bk w g e [a0,a1,a2,a3]):w.cell? ⟨g,0,none⟩=some a0/\w.cell? ⟨g,1,none⟩=some a1/\w.cell? ⟨g,2,none⟩=some a2/\w.cell? ⟨g,3,none⟩=some a3:=
 ⟨h.cell 0,h.cell 1,h.cell 2,h.cell 3⟩
end
end Go.Proofs.YtmehhgfbnfbnaaaGreat.Meta

namespace Go.Proofs.YtmehhgfbnfbnaaaGreat.Meta
open Go.Proofs.YtmehhgfbnfbnaaaGreat
open Go.RowKit
section
variable {w w':World}{l:List (List UInt8)}{L:List Sc}{v:qag}
theorem own_ne{b1 b2:Nat}{e1 e2:TypeId}{s1 s2 n1 n2:Nat}{v1 v2:qag}{x1 x2:List qag}(h1:w.ownsRow b1 e1 s1 v1 n1 x1)(h2:w.ownsRow b2 e2 s2 v2 n2 x2)(hne:e1≠e2):v1.ownBlock=none\/v1.ownBlock≠v2.ownBlock:=by
 rcases h1.2 with⟨rfl,_⟩|⟨g1,c1,adV,rfl,_,hg1,_⟩
 ·exact .inl rfl
 ·rcases h2.2 with⟨rfl,_⟩|⟨g2,c2,JF,rfl,_,hg2,_⟩
  ·exact .inr (by simp[qag.ownBlock])
  ·refine .inr fun h=>hne ?_
   have e:g1=g2:=by simpa[qag.ownBlock]using h
   subst e
   rw[hg1]at hg2
   simp only[Option.some.injEq,Obj.cells.injEq]at hg2
   exact hg2.2.1
structure Zx(w:World)(base:Nat)(v:qag)(L:List Sc)(l:List (List UInt8)):Prop where
 len:L.length=l.length
 row:w.ownsRow base 37 1 v l.length (X3 L l)
 each:∀(i:Nat)(s:Sc)(b:List UInt8),L[i]? =some s->l[i]? =some b->w.ownsRow base 5 1 (.slice s.A b.length s.c) b.length (Z6 b)
theorem Zx.nil (w:World)(base:Nat):Zx w base (.slice none 0 0) [] []:=⟨rfl,World.ownsRow_nil _ _ _ _,fun i s b h=>by simp at h⟩
theorem Zx.below {base:Nat}(h:Zx w base v L l)(hb:Below w.heap.size w w'):Zx w' base v L l:=
 ⟨h.len,own_below h.row hb,fun i s b h1 h2=>own_below (h.each i s b h1 h2) hb⟩
theorem Zx.base {base base':Nat}(h:Zx w base v L l)(hb:base'<=base):Zx w base' v L l:=
 ⟨h.len,ZL h.row hb,fun i s b h1 h2=>ZL (h.each i s b h1 h2) hb⟩
theorem Zx.at_ {base:Nat}{A:Option Addr}{n c:Nat}(h:Zx w base (.slice A n c) L l):n=l.length/\l.length<=c/\c<=maxLen/\Zd w w.heap.size A L l:=by
 obtain⟨_,A',c',hv,hc,hm,hr⟩:=Yx h.row
 injection hv with h1 h2 h3
 subst h1 h2 h3
 refine⟨rfl,hc,hm,h.len,hr,fun i s b h1 h2=>?_⟩
 obtain⟨_,A2,c2,hv2,hc2,hm2,hr2⟩:=Yx (h.each i s b h1 h2)
 injection hv2 with g1 g2 g3
 subst g1 g3
 exact⟨hr2,hc2,hm2⟩
theorem Zx.slice {base:Nat}(h:Zx w base v L l):∃A c,v=.slice A l.length c:=by
 obtain⟨_,A,c,hv,_⟩:=Yx h.row
 exact⟨A,c,hv⟩
theorem RO:(Tryz.prog.info? 37).map (fun i=>(i.zero,i.size,i.bytes))=some (some (.slice none 0 0),1,24):=by kernel_rfl
def Tf(w:World)(r:List (List UInt8) × Nat)(e:Ending)(w':World):Prop:=
 ∃v L,e=.returned (.tuple #[v,r.2])/\Zx w' w.heap.size v L r.1/\Below w.heap.size w w'
theorem Tf.got {k:Nat}{e:Ending}(h:Tf w (l,k) e w'):∃A c L,e=.returned (.tuple #[.slice A l.length c,k])/\Zx w' w.heap.size (.slice A l.length c) L l/\l.length<=c/\c<=maxLen/\Zd w' w'.heap.size A L l/\Below w.heap.size w w':=by
 obtain⟨v,L,he,ho,hb⟩:=h
 obtain⟨A,c,rfl⟩:=ho.slice
 obtain⟨-,h1,h2,h3⟩:=ho.at_
 exact⟨A,c,L,he,ho,h1,h2,h3,hb⟩
end
end Go.Proofs.YtmehhgfbnfbnaaaGreat.Meta

namespace Go.Proofs.YtmehhgfbnfbnaaaGreat.Meta
open Go.Proofs.YtmehhgfbnfbnaaaGreat
open Go.RowKit
section
variable {G:Geo}{l:List (List UInt8)}{m:Met}{i:Nat}
def fw(b:UInt8):Int:=(b.toNat:Int)
def Mf(l:List UInt8)(n:Nat):List Int:=(l.take n).map fw
def half(l:List (List UInt8))(i:Nat):List UInt8:=((l.getD (3+i/2) []).drop (32*(i%2))).take 32
noncomputable def Sd(l:List (List UInt8))(n:Nat):List Z9.ZC:=(List.range n).map fun i=>(Z9.Xk (half l i)).1
theorem O8(l:List (List UInt8))(n:Nat):(Sd l n).length=n:=by simp[Sd]
theorem K9(l:List (List UInt8))(n:Nat):Sd l (n+1)=Sd l n++[(Z9.Xk (half l n)).1]:=by simp[Sd,List.range_succ]
theorem Gp{l:List UInt8}{n:Nat}(h:n<=l.length):(Mf l n).length=n:=by simp[Mf];omega
noncomputable def Nl(G:Geo)(l:List (List UInt8)):Met:=⟨(Z8.WA (l.getD 0 [])).rows,Mf (l.getD 1 []) G.g.toNat,l.getD 2 [],Sd l G.i.toNat⟩
theorem Gn(b:List UInt8):Z9.YP (Z9.Xk b).1:=by
 unfold Z9.Xk
 split
 ·split
  ·split
   ·exact Z9.mF b
   ·exact .z
  ·exact .z
 ·exact .z
theorem Gm(l:List (List UInt8))(n:Nat):∀m∈Sd l n,Z9.YP m:=by
 intro m hm
 simp only[Sd,qal]at hm
 obtain⟨i,_,rfl⟩:=hm
 exact Gn _
theorem Bp(l:List UInt8)(n:Nat):∀x∈Mf l n,-9223372036854775808<=x/\x<=9223372036854775807:=by
 intro x hx
 simp only[Mf,qal]at hx
 obtain⟨b,_,rfl⟩:=hx
 have:=UInt8.toNat_lt b
 unfold fw
 omega
theorem Gl(h:(Z8.WA (l.getD 0 [])).err=0):Rc (Nl G l):=
 ⟨(Z8.zb h).2.2.1,Bp _ _,Gm _ _⟩
theorem yz{l:List Int}(h:∀x∈l,0<=x/\x<=16)(n:Nat)(hn:l.length=n):Mf (Ya (XB l) 64) n=l:=by
 subst hn
 unfold Mf Ya
 rw[qai (by rw[X0];exact Nat.le_refl _),qaf (by rw[X0];exact Nat.le_refl _)]
 unfold XB
 rw[List.map_map]
 conv=>rhs;rw[<-List.map_id l]
 apply List.map_congr_left
 intro x hx
 have:=h x hx
 show(((qah x.toNat).toNat:Nat):Int)=x
 simp
 omega
theorem yx(h:Right G m)(ho:Rc m){n:Z9.ZC}(hi:m.ino[i]? =some n):half (secs m) i=Z9.ZK n:=by
 have hl:=(qae.1 hi).1
 obtain⟨a,b,h1,h2,h3⟩:=Ib h.even hl
 have e:(secs m).getD (3+i/2) []=Z9.ZK a++Z9.ZK b:=by
  rw[qaj,show 3+i/2=i/2+1+1+1 by omega]
  show((pairs m.ino)[i/2]?).getD []=_
  rw[h3]
  rfl
 have la:=Z9.YL (ho.ino a (qad h1))
 have lb:=Z9.YL (ho.ino b (qad h2))
 unfold half
 rw[e]
 rcases Nat.mod_two_eq_zero_or_one i with hm|hm
 ·have e2:2*(i/2)=i:=by omega
  rw[e2,hi]at h1
  injection h1 with h1
  subst h1
  rw[hm,Nat.mul_zero,List.drop_zero,qai (by omega),qaf (by omega)]
 ·have e2:2*(i/2)+1=i:=by omega
  rw[e2,hi]at h2
  injection h2 with h2
  subst h2
  rw[hm,Nat.mul_one,List.drop_append_of_le_length (by omega),List.drop_of_length_le (by omega),List.nil_append,qaf (by omega)]
theorem yw(h:Right G m)(ho:Rc m):Sd (secs m) G.i.toNat=m.ino:=by
 have hi:=h.Sk
 have hi1:=h.YV.i1
 apply List.ext_getElem?
 intro i
 by_cases hl:i<m.ino.length
 ·have hn:m.ino[i]? =some (m.ino[i]):=qak hl
  unfold Sd
  rw[List.getElem?_map,List.getElem?_range (by omega),Option.map_some,yx h ho hn,Z9.J8 (h.ino _ (List.getElem_mem _)) (ho.ino _ (List.getElem_mem _)),hn]
 ·rw[qam (by rw[O8];omega),qam (by omega)]
theorem K8(h:Right G m)(ho:Rc m):Nl G (secs m)=m:=by
 have h1:=h.OV
 refine Met.ext' ?_ ?_ rfl (yw h ho)
 ·show(Z8.WA (Z8.bytesOf m.rows)).rows=_
  rw[Z8.NL h.rows ho.rows]
 ·exact yz h.own _ (by have:=h.YV.g1;omega)
theorem lX(h:(l.length:Int)≠3+G.i/2):Si G l=(.z,140):=
 NV fun⟨_,h1,_,h3⟩=>h (h3▸Vf h1)
theorem Bo(h:¬ G.Ok):Si G l=(.z,140):=
 NV fun⟨_,h1,_⟩=>h h1.YV
theorem eZ{s:List UInt8}(hs:l[i]? =some s)(h:s.length≠64):Si G l=(.z,140):=
 NV fun⟨_,h1,h2,h3⟩=>h (Ku h1 h2 s (h3▸qad hs))
theorem QK(h0:(Z8.WA (l.getD 0 [])).err=0)(h:Right G (Nl G l))(hs:secs (Nl G l)=l):Si G l=(Nl G l,0):=
 nu h (Gl h0) hs
theorem Oz(h:¬ Right G (Nl G l)):Si G l=(.z,140):=
 NV fun⟨_,h1,h2,h3⟩=>h (by subst h3;rw[K8 h1 h2];exact h1)
theorem Oy(h:secs (Nl G l)≠l):Si G l=(.z,140):=
 NV fun⟨_,h1,h2,h3⟩=>h (by subst h3;rw[K8 h1 h2])
end
end Go.Proofs.YtmehhgfbnfbnaaaGreat.Meta
