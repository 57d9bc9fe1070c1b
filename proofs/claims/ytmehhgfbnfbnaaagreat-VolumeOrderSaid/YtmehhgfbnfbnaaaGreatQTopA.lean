import Derived.Test.YtmehhgfbnfbnaaaGreatQMetaU
import Derived.Test.YtmehhgfbnfbnaaaGreatQMetaB
import Derived.Test.YtmehhgfbnfbnaaaGreatQTk
import Derived.Laws.BitsAllLaws
import Derived.Test.YtmehhgfbnfbnaaaGreatQJrnB
import Derived.Deep.AppendLies
set_option maxRecDepth 100000
set_option maxHeartbeats 25600000
open List renaming getElem?_append_right->qaa
open Go renaming World->qab,Value->qac
open Nat renaming zero_add->qad
open Go.Region renaming wanted->qae
namespace Go.Proofs.YtmehhgfbnfbnaaaGreat
open Go.RowKit
namespace Meta
theorem LA(b:List UInt8)(q:Nat)(y:UInt8):(Z6 b).set q (.int .u8 y.toNat)=Z6 (b.set q y):=Lx b q y
section
variable {u:qab}{b:Nat}{x:Mem}{r0 r1 r2 r3:Nat}
end
theorem Xo{u:qab}{b g n c k:Nat}{e:TypeId}{xs:List qac}(h:u.ownsRow b e k (.slice g n c) n xs)(j:Nat)(hj:j<n*k):(∃v,u.cell? ⟨g,j,none⟩=some v)/\u.frozen? ⟨g,j,none⟩=false:=
 ⟨⟨xs[j]'(by rw[h.1];exact hj),(h.cellAt j hj).trans (List.getElem?_eq_getElem (by rw[h.1];exact hj))⟩,h.frozenAt j⟩
theorem gH(y:UInt8):bits .xor .u8 (y.toNat:Int) 85=((y^^^85).toNat:Int):=by
 have:=u8_xor_nat y.toNat 85 y.toNat_lt (by decide)
 rw[UInt8.toNat_xor]
 exact this
end Meta
end Go.Proofs.YtmehhgfbnfbnaaaGreat

namespace Go.Proofs.YtmehhgfbnfbnaaaGreat.Zq
open Go.RowKit Meta
def iJ(e:TypeId):Prop:=e=156\/e=178\/e=231\/e=194
instance (e:TypeId):Decidable (iJ e):=by unfold iJ;infer_instance
structure Good(w w':qab):Prop where
 size:w.heap.size<=w'.heap.size
 block:∀(i:Nat)(c:Array qac)(e:TypeId),w.heap[i]? =some (.cells c e (0,0))->¬ iJ e->w'.heap[i]? =w.heap[i]?
section
variable {w w1 w2:qab}{S:Nat->Prop}{b bj:Nat}
section
variable {B i F n q:Nat}{k:Dk Sx}{α:Type}
theorem Good.refl (w:qab):Good w w:=⟨Nat.le_refl _,fun _ _ _ _ _=>rfl⟩
theorem Good.trans (h:Good w w1)(k:Good w1 w2):Good w w2:=
 ⟨Nat.le_trans h.size k.size,fun i c e hi he=>(k.block i c e ((h.block i c e hi he).trans hi) he).trans (h.block i c e hi he)⟩
theorem XZ{o:Obj}(h:w.heap[i]? =some o):i<w.heap.size:=by
 rcases Nat.lt_or_ge i w.heap.size with hlt|hge
 ·exact hlt
 ·rw[Array.getElem?_eq_none hge]at h;cases h
theorem Good.of_below (h:Below w.heap.size w w1):Good w w1:=⟨h.size,fun i _ _ hi _=>h.block i (XZ hi)⟩
theorem typed{f:α->List qac}{k:Dk α}(h:Zv f w S b k)(hi:S i):∃c e,w.heap[i]? =some (.cells c e (0,0))/\iJ e:=by
 obtain⟨bn,bs,cn,cs,vu,rfl,hm⟩:=h
 rcases hi with rfl|rfl|rfl|hi
 ·exact⟨_,_,hm.blk,.inl rfl⟩
 ·obtain⟨c,hc⟩:=hm.Tw.elemType
  exact⟨_,_,hc,.inr (.inl rfl)⟩
 ·obtain⟨c,hc⟩:=hm.U8.elemType
  exact⟨_,_,hc,.inr (.inl rfl)⟩
 ·rcases hm.zH with⟨rfl,_⟩|⟨bu,cu,rfl,hr⟩
  ·cases hi
  ·obtain⟨c,hc⟩:=hr.elemType
   cases hi
   exact⟨_,_,hc,.inr (.inr (.inl rfl))⟩
theorem Good.BP {f:α->List qac}{k:Dk α}(h:Zv f w S b k)(hk:Kept S w w1):Good w w1:=
 ⟨hk.size,fun i _ _ hi he=>hk.block i (XZ hi) fun hs=>by
  obtain⟨_,_,h1,h2⟩:=typed h hs
  rw[hi]at h1
  cases h1
  exact he h2⟩
theorem Good.bk {g:Nat}{e:TypeId}{xs:List qac}(hg:Good w w1)(h:Bk w g e xs)(he:¬ iJ e:=by decide):Bk w1 g e xs:=(hg.block _ _ _ h he).trans h
structure DJ(B:Nat)(w:qab)(S:Nat->Prop)(bj b F n q:Nat)(k:Dk Sx):Prop where
 disk:Zv sx w S b k
 jb:JB w bj b F n q
 off:¬ S bj
 lo:∀i,S i->B<=i
 jlo:B<=bj
theorem DJ.below (h:DJ B w S bj b F n q k)(hb:Below w.heap.size w w1):DJ B w1 S bj b F n q k:=
 ⟨h.disk.below hb,(hb.block bj h.jb.lt).trans h.jb,h.off,h.lo,h.jlo⟩
structure DO(B:Nat)(w:qab)(S:Nat->Prop)(b:Nat)(k:Dk Sx):Prop where
 disk:Zv sx w S b k
 lo:∀i,S i->B<=i
theorem DO.below (h:DO B w S b k)(hb:Below w.heap.size w w1):DO B w1 S b k:=⟨h.disk.below hb,h.lo⟩
theorem DO.turn {k':Dk Sx}(h:DO B w S b k)(ht:Turned sx S w w1 b k')(hB:B<=w.heap.size):(∃S',DO B w1 S' b k')/\Good w w1/\Below B w w1:=by
 obtain⟨hK,S',hD,hS⟩:=ht
 refine⟨⟨S',hD,fun i hi=>?_⟩,Good.BP h.disk hK,hK.below h.lo hB⟩
 rcases hS i hi with hs|hs
 ·exact h.lo i hs
 ·omega
theorem DJ.only (h:DJ B w S bj b F n q k):DO B w S b k:=⟨h.disk,h.lo⟩
end
end
end Go.Proofs.YtmehhgfbnfbnaaaGreat.Zq

namespace Go.Proofs.YtmehhgfbnfbnaaaGreat.Zq
open Go.RowKit UH
section
variable {n F T:Nat}{l:List (Nat × Sx)}
theorem BQ(h:(stored l).length+1<=n):l.length<=room n:=by
 rw[Yv]at h
 unfold room
 omega
theorem Ig{s:Nat}(h:Out F n s)(hs:s<T):Xy T F n (s:Int)=true:=by
 unfold Xy
 rcases h with h|h
 ·simp;omega
 ·simp;omega
theorem IA(hr:(stored l).length+1<=n)(hv:IJ F n T l):Uq T F n (ints l)=0:=by
 have hl:=BQ hr
 unfold Uq
 rw[if_neg (by rw[ints,List.length_map];omega)]
 have:XQ T F n (ints l)=false:=by
  rw[XQ,List.any_eq_false]
  intro p hp
  rw[ints,List.mem_map]at hp
  obtain⟨p0,h0,rfl⟩:=hp
  obtain⟨h1,h2⟩:=hv p0 h0
  show ¬ (!Xy T F n (p0.1:Int))=true
  rw[Ig h1 h2]
  decide
 rw[this]
 rfl
end
section
variable {w:qab}{S:Nat->Prop}{B b bj F n T q:Nat}{k:Dk Sx}
theorem zP(hP:vO F n T)(Ce:3<=n)(hT:T<=4096)(h:DO B w S b k)(hB:B<=w.heap.size){l:List (Nat × Sx)}(hI:E8 F n T k.safe q l)(hu:k.un=[])(hd:k.dead=false)(hc:k.cut=false)(hq:q<18446744073709551616):
  Calls Tryz.prog 80 #[.pointer b,F,n] w fun e w'=>∃(bj:Nat)(S':Nat->Prop)(k':Dk Sx),e=.returned (.tuple #[.pointer bj,l.length,()])/\
   DJ B w' S' bj b F n q k'/\UH.Rest F n T k' q/\vw F n k'.safe=vw F n (puts k.safe l)/\k'.cut=false/\Good w w'/\Below B w w':=by
 have hlo:=hP.lo
 have hhi:=hP.hi
 obtain⟨c,hc1,hc2⟩:=hI.head
 have hlen:=hI.len
 have Kc:k.now=k.safe:=UE hu
 refine(zI h.disk hd (by omega) Ce (by omega) (by omega) (by omega) (by rw[hu];exact Nat.zero_le _) c (by rw[Kc];exact hc1) q l l.length rfl hc2 (BQ hI.room) (by rw[Kc];exact hI.loads) (fun p hp=>by
  obtain⟨h1,h2⟩:=hI.val p hp
  rw[hlen]
  exact Ig h1 h2)).mono ?_
 rintro e w' ⟨v,rfl,hres⟩
 rcases Ie hP hI hu hd hq with⟨f1,f2,f3,f4⟩|⟨f0,_⟩
 ·rcases hres with⟨-,bj,rfl,hbj,hK,S',hD,hS,hJ,hb⟩|⟨hne,-⟩
  ·refine⟨bj,S',_,rfl,⟨hD,hJ,hb,fun i hi=>?_,by omega⟩,f2,f3,f4.trans hc,Good.BP h.disk hK,hK.below h.lo hB⟩
   rcases hS i hi with hs|hs
   ·exact h.lo i hs
   ·omega
  ·exact absurd f1 hne
 ·rw[hc]at f0;cases f0
def Done(F n T q:Nat)(k k':Dk Sx)(l:List (Nat × Sx))(q':Nat)(e:Int):Prop:=
 (e=0/\q'=q+1/\UH.Rest F n T k' (q+1)/\vw F n k'.safe=vw F n (puts k.safe l)/\k'.cut=k.cut/\k'.safe=after F k.safe q l)\/
 (k.cut=true/\e=6/\q'=q/\EE F n T (q+1) k' (fun V=>V=vw F n k.safe\/V=vw F n (puts k.safe l)))
theorem LD(h:DO B w S b k){s:Nat}{c:Sx}(hc:k.now[s]? =some c)(hd:k.dead=false):
  Calls Tryz.prog 50 #[.pointer b,s] w fun e w'=>e=.returned (.tuple #[.slice w.heap.size 64 64,()])/\Bk w' w.heap.size 161 (Z6 c.b)/\Below w.heap.size w w':=
 Ic w S b k h.disk s c (Z6 c.b) (.int .u16 c.t) hc rfl (by rw[Z4,c.hb]) (YC _) hd
end
end Go.Proofs.YtmehhgfbnfbnaaaGreat.Zq

namespace Go.Proofs.YtmehhgfbnfbnaaaGreat.Av
open Go.RowKit Meta
section
variable {u u':qab}{base:Nat}
structure Pc where
 s:Int
 g:Nat
 o:Nat
 c:Nat
 x:Sx
def Sl(p:Pc):List qac:=[p.s,.slice (some ⟨p.g,p.o,none⟩) 64 p.c,.int .u16 p.x.t]
def Yz(l:List Pc):List qac:=l.flatMap Sl
theorem Ur(l m:List Pc):Yz (l++m)=Yz l++Yz m:=by simp[Yz]
theorem LJ(p:Pc):Yz [p]=Sl p:=by simp[Yz]
theorem Kk(l:List Pc):(Yz l).length=l.length*3:=by
 induction l with
 |nil=>rfl
 |cons p l ih=>
  have:Yz (p::l)=Sl p++Yz l:=rfl
  rw[this,List.length_append,ih,List.length_cons]
  show 3+l.length*3=(l.length+1)*3
  omega
theorem Og(p:Pc):∀u∈Sl p,u.oneCell'=true:=by
 intro u hu
 simp only[Sl,List.mem_cons,List.not_mem_nil,or_false]at hu
 rcases hu with rfl|rfl|rfl<;>rfl
theorem qb{l:List Pc}{i:Nat}{p:Pc}(h:l[i]? =some p):(Yz l)[i*3]? =some (.int .i64 p.s)/\(Yz l)[i*3+1]? =some (.slice (some ⟨p.g,p.o,none⟩) 64 p.c)/\(Yz l)[i*3+2]? =some (.int .u16 p.x.t):=by
 induction l generalizing i with
 |nil=>simp at h
 |cons q l ih=>
  have hq:Yz (q::l)=Sl q++Yz l:=rfl
  rw[hq]
  cases i with
  |zero=>
   simp only[List.getElem?_cons_zero,Option.some.injEq]at h
   subst h
   exact⟨rfl,rfl,rfl⟩
  |succ i=>
   have hl:(Sl q).length=3:=rfl
   have h':l[i]? =some p:=by simpa using h
   obtain⟨h1,h2,h3⟩:=ih h'
   refine⟨?_,?_,?_⟩
   ·rw[qaa (by omega),hl,show(i+1)*3-3=i*3 by omega];exact h1
   ·rw[qaa (by omega),hl,show(i+1)*3+1-3=i*3+1 by omega];exact h2
   ·rw[qaa (by omega),hl,show(i+1)*3+2-3=i*3+2 by omega];exact h3
structure Us(u:qab)(base:Nat)(p:Pc):Prop where
 lo:base<=p.g
 ty:∃(cur:Array qac)(e:TypeId)(f:Nat × Nat),u.heap[p.g]? =some (.cells cur e f)/\e≠140
 cap:64<=p.c
 rd:u.rangeAt p.g p.o (Z6 p.x.b)
theorem Us.lt {p:Pc}(h:Us u base p):p.g<u.heap.size:=by
 obtain⟨_,_,_,h1,_⟩:=h.ty
 exact Zq.XZ h1
theorem Us.keep {p:Pc}(h:Us u base p)(hk:u'.heap[p.g]? =u.heap[p.g]?):Us u' base p:=by
 obtain⟨c,e,f,h1,h2⟩:=h.ty
 exact⟨h.lo,⟨c,e,f,hk.trans h1,h2⟩,h.cap,ZO h.rd hk⟩
theorem Us.below {p:Pc}(h:Us u base p)(hb:Below u.heap.size u u'):Us u' base p:=h.keep (hb.block _ h.lt)
structure Zc(u:qab)(base:Nat)(v:qac)(P:List Pc):Prop where
 row:u.ownsRow base 140 3 v P.length (Yz P)
 each:∀p∈P,Us u base p
end
section
variable {u u':qab}{base:Nat}{v:qac}{P:List Pc}
section
variable {n:Nat}
theorem Zc.nil (u:qab)(base:Nat):Zc u base (.slice none 0 0) []:=⟨qab.ownsRow_nil _ _ _ _,fun p hp=>by cases hp⟩
theorem Zc.below (h:Zc u base v P)(hb:Below u.heap.size u u'):Zc u' base v P:=⟨own_below h.row hb,fun p hp=>(h.each p hp).below hb⟩
theorem Zc.lower {base':Nat}(h:Zc u base v P)(hb:base'<=base):Zc u base' v P:=
 ⟨ZL h.row hb,fun p hp=>by have:=h.each p hp;exact⟨Nat.le_trans hb this.lo,this.ty,this.cap,this.rd⟩⟩
theorem Zc.push (h:Zc u base v P){v':qac}(p:Pc)(hn:P.length=n)(hown:u'.ownsRow base 140 3 v' (n+1) (Yz P++Sl p))(hg:u.grownBy u' v.ownBlock)(hp:Us u base p):Zc u' base v' (P++[p]):=by
 have hk:∀q:Pc,Us u base q->Us u' base q:=fun q hq=>hq.keep (hg.block _ hq.lt (fun e=>by
  obtain⟨c,t,f,h1,h2⟩:=hq.ty
  rcases h.row.2 with⟨rfl,_⟩|⟨g,cap,cur,rfl,_,hc,_⟩
  ·cases e
  ·have e':p.g=p.g:=rfl
   have:q.g=g:=by simpa[qac.ownBlock]using e
   rw[this,hc]at h1
   cases h1
   exact h2 rfl))
 refine⟨by rw[List.length_append,List.length_singleton,hn,Ur,LJ];exact hown,fun q hq=>?_⟩
 rcases List.mem_append.1 hq with hq|hq
 ·exact hk q (h.each q hq)
 ·rw[List.mem_singleton.1 hq];exact hk p hp
theorem Zc.slice (h:Zc u base v P):∃A c,v=.slice A P.length c:=XN h.row
theorem Zc.IE {A:Option Addr}{c:Nat}{L:List (Int × Sx)}(h:Zc u base (.slice A n c) P)(hL:P.map (fun p=>(p.s,p.x))=L):XR u (fun t=>base<=t/\t<u.heap.size) A L:=fun i q hq=>by
 subst hL
 obtain⟨p,hp,rfl⟩:=Option.map_eq_some_iff.1 ((List.getElem?_map ..).symm.trans hq)
 have hi:=(List.getElem?_eq_some_iff.1 hp).1
 have Vd:=h.each p (List.mem_of_getElem? hp)
 obtain⟨h1,h2,h3⟩:=qb hp
 have hrow:=h.row
 rcases hrow.2 with⟨_,h0⟩|⟨g,cap,cur,hv,hb,hg,_⟩
 ·omega
 ·injection hv with hA hn hc
  subst hA hn
  have hc':=fun j hj=>hrow.cellAt (g:=g) j hj
  refine⟨g,0,p.g,p.o,p.c,rfl,⟨hb,Zq.XZ hg⟩,⟨Vd.lo,Vd.lt⟩,Zq.XZ hg,Vd.lt,Vd.cap,?_,?_,?_,Vd.rd⟩
  ·rw[qad,hc' _ (by omega)];exact h1
  ·rw[qad,hc' _ (by omega)];exact h2
  ·rw[qad,hc' _ (by omega)];exact h3
end
end
theorem Kl:(Tryz.prog.info? 140).map (fun i=>(i.zero,i.size,i.bytes))=some (some (.agg #[(),.slice none 0 0,.int .u16 0]),3,40):=by kernel_rfl
theorem EL{ops:Array Oper}{o:Oper}{a:Act}{w:qab}{K:Act->qab->Prop}{Q:Exit->Act->qab->Prop}{E:Prop}(hgd:o.guard=none)(s x:Operand)
  (ho:o.op=.call {callee:=.builtin .append,args:=#[s,x],argTypes:=#[137,137]})
  (base:Nat)(v:qac)(P:List Pc)(n:Nat)(hn:P.length=n)(hs:a.eval s=v)(hown:Zc w base v P)
  (g:Nat)(p:Pc)(hx:a.eval x=.slice g 1 1)(hb:Bk w g 140 (Sl p))(hp:Us w base p)(hlen:n<=100000)(hbase:base<=w.heap.size)
  (h:∀g' c' w',Zc w' base (.slice (some ⟨g',0,none⟩) (n+1) c') (P++[p])->w.grownBy w' v.ownBlock->K (a.put o.dst (.slice (some ⟨g',0,none⟩) (n+1) c')) w'):
  if qae o (yielded ops a.tmps)=true then Oper.wp Tryz.prog o a w K Q else E:=by
 have hw:qae o (yielded ops a.tmps)=true:=by simp[qae,hgd]
 rw[if_pos hw]
 obtain⟨i0,hi,hz0,hz1,hz2⟩:=info_parts Kl
 subst hn
 refine wp_append_lies w s x 137 ho base 140 i0 _ 3 40 Tryz.underlying137 hi hz0 hz1 hz2 rfl (by omega) v P.length (Yz P) hs hown.row ⟨g,0,none⟩ 1 1 (Sl p) hx rfl (fun j u hu=>?_) (Og p) (by omega) (by unfold maxLen;omega) (by omega) hbase w.heap.size rfl ?_
 ·rw[Addr.add_lit,qad]
  exact(hb.cell j).trans hu
 ·intro g' c' w' h1 h2 _ _
  exact h g' c' w' (hown.push p rfl h1 h2 hp) h2
end Go.Proofs.YtmehhgfbnfbnaaaGreat.Av
