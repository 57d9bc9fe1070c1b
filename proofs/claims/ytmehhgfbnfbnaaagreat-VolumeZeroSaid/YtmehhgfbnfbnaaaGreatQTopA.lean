import Derived.Test.YtmehhgfbnfbnaaaGreatQMetaU
import Derived.Test.YtmehhgfbnfbnaaaGreatQMetaB
import Derived.Test.YtmehhgfbnfbnaaaGreatQTk
import Derived.Laws.BitsAllLaws
import Derived.Test.YtmehhgfbnfbnaaaGreatQJrnB
set_option maxRecDepth 100000
set_option maxHeartbeats 25600000
namespace Go.Proofs.YtmehhgfbnfbnaaaGreat
open Go.RowKit
namespace Meta
theorem NY(b:List UInt8)(q:Nat)(y:UInt8):(Z7 b).set q (.int .u8 y.toNat)=Z7 (b.set q y):=NC b q y
section
variable {u:World}{b:Nat}{x:Mem}{r0 r1 r2 r3:Nat}
end
theorem XN{u:World}{b g n c k:Nat}{e:TypeId}{xs:List Value}(h:u.ownsRow b e k (.slice g n c) n xs)(j:Nat)(hj:j<n*k):(∃v,u.cell? ⟨g,j,none⟩=some v)/\u.frozen? ⟨g,j,none⟩=false:=
 ⟨⟨xs[j]'(by rw[h.1];exact hj),(h.cellAt j hj).trans (List.getElem?_eq_getElem (by rw[h.1];exact hj))⟩,h.frozenAt j⟩
theorem qB(y:UInt8):bits .xor .u8 (y.toNat:Int) 85=((y^^^85).toNat:Int):=by
 have:=u8_xor_nat y.toNat 85 y.toNat_lt (by decide)
 rw[UInt8.toNat_xor]
 exact this
end Meta
end Go.Proofs.YtmehhgfbnfbnaaaGreat

namespace Go.Proofs.YtmehhgfbnfbnaaaGreat.Zc
open Go.RowKit Meta
def qL(e:TypeId):Prop:=e=156\/e=178\/e=231\/e=194
instance (e:TypeId):Decidable (qL e):=by unfold qL;infer_instance
structure Good(w w':World):Prop where
 size:w.heap.size<=w'.heap.size
 block:∀(i:Nat)(c:Array Value)(e:TypeId),w.heap[i]? =some (.cells c e (0,0))->¬ qL e->w'.heap[i]? =w.heap[i]?
section
variable {w w1 w2:World}{S:Nat->Prop}{b bj:Nat}
section
variable {B i F n q:Nat}{k:Dk Sx}{α:Type}
theorem Good.refl (w:World):Good w w:=⟨Nat.le_refl _,fun _ _ _ _ _=>rfl⟩
theorem Good.trans (h:Good w w1)(k:Good w1 w2):Good w w2:=
 ⟨Nat.le_trans h.size k.size,fun i c e hi he=>(k.block i c e ((h.block i c e hi he).trans hi) he).trans (h.block i c e hi he)⟩
theorem Xp{o:Obj}(h:w.heap[i]? =some o):i<w.heap.size:=by
 rcases Nat.lt_or_ge i w.heap.size with hlt|hge
 ·exact hlt
 ·rw[Array.getElem?_eq_none hge]at h;cases h
theorem Good.of_below (h:Below w.heap.size w w1):Good w w1:=⟨h.size,fun i _ _ hi _=>h.block i (Xp hi)⟩
theorem typed{f:α->List Value}{k:Dk α}(h:Zo f w S b k)(hi:S i):∃c e,w.heap[i]? =some (.cells c e (0,0))/\qL e:=by
 obtain⟨bn,bs,cn,cs,vu,rfl,hm⟩:=h
 rcases hi with rfl|rfl|rfl|hi
 ·exact⟨_,_,hm.blk,.inl rfl⟩
 ·obtain⟨c,hc⟩:=hm.Uw.elemType
  exact⟨_,_,hc,.inr (.inl rfl)⟩
 ·obtain⟨c,hc⟩:=hm.VU.elemType
  exact⟨_,_,hc,.inr (.inl rfl)⟩
 ·rcases hm.Dt with⟨rfl,_⟩|⟨bu,cu,rfl,hr⟩
  ·cases hi
  ·obtain⟨c,hc⟩:=hr.elemType
   cases hi
   exact⟨_,_,hc,.inr (.inr (.inl rfl))⟩
theorem Good.Ff {f:α->List Value}{k:Dk α}(h:Zo f w S b k)(hk:Kept S w w1):Good w w1:=
 ⟨hk.size,fun i _ _ hi he=>hk.block i (Xp hi) fun hs=>by
  obtain⟨_,_,h1,h2⟩:=typed h hs
  rw[hi]at h1
  cases h1
  exact he h2⟩
theorem Good.bk {g:Nat}{e:TypeId}{xs:List Value}(hg:Good w w1)(h:Bk w g e xs)(he:¬ qL e:=by decide):Bk w1 g e xs:=(hg.block _ _ _ h he).trans h
structure DJ(B:Nat)(w:World)(S:Nat->Prop)(bj b F n q:Nat)(k:Dk Sx):Prop where
 disk:Zo sx w S b k
 jb:JB w bj b F n q
 off:¬ S bj
 lo:∀i,S i->B<=i
 fM:B<=bj
theorem DJ.below (h:DJ B w S bj b F n q k)(hb:Below w.heap.size w w1):DJ B w1 S bj b F n q k:=
 ⟨h.disk.below hb,(hb.block bj h.jb.lt).trans h.jb,h.off,h.lo,h.fM⟩
structure DO(B:Nat)(w:World)(S:Nat->Prop)(b:Nat)(k:Dk Sx):Prop where
 disk:Zo sx w S b k
 lo:∀i,S i->B<=i
theorem DO.below (h:DO B w S b k)(hb:Below w.heap.size w w1):DO B w1 S b k:=⟨h.disk.below hb,h.lo⟩
theorem DO.turn {k':Dk Sx}(h:DO B w S b k)(ht:Turned sx S w w1 b k')(hB:B<=w.heap.size):(∃S',DO B w1 S' b k')/\Good w w1/\Below B w w1:=by
 obtain⟨hK,S',hD,hS⟩:=ht
 refine⟨⟨S',hD,fun i hi=>?_⟩,Good.Ff h.disk hK,hK.below h.lo hB⟩
 rcases hS i hi with hs|hs
 ·exact h.lo i hs
 ·omega
theorem DJ.only (h:DJ B w S bj b F n q k):DO B w S b k:=⟨h.disk,h.lo⟩
end
end
end Go.Proofs.YtmehhgfbnfbnaaaGreat.Zc

namespace Go.Proofs.YtmehhgfbnfbnaaaGreat.Zc
open Go.RowKit Tq
section
variable {n:Nat}
theorem vB{l:List (Nat × Sx)}(h:(stored l).length+1<=n):l.length<=room n:=by
 rw[WU]at h
 unfold room
 omega
theorem zN{F T s:Nat}(h:Out F n s)(hs:s<T):Ux T F n (s:Int)=true:=by
 unfold Ux
 rcases h with h|h
 ·simp;omega
 ·simp;omega
end
section
variable {w:World}{S:Nat->Prop}{B b bj F n T q:Nat}{k:Dk Sx}
theorem DF(hP:l7 F n T)(rR:3<=n)(hT:T<=4096)(h:DO B w S b k)(hB:B<=w.heap.size){l:List (Nat × Sx)}(hI:Fq F n T k.safe q l)(hu:k.un=[])(hd:k.dead=false)(hc:k.cut=false)(hq:q<18446744073709551616):
  Calls Tryz.prog 80 #[.pointer b,F,n] w fun e w'=>∃(bj:Nat)(S':Nat->Prop)(k':Dk Sx),e=.returned (.tuple #[.pointer bj,l.length,()])/\
   DJ B w' S' bj b F n q k'/\Tq.Rest F n T k' q/\vw F n k'.safe=vw F n (puts k.safe l)/\k'.cut=false/\Good w w'/\Below B w w':=by
 have hlo:=hP.lo
 have hhi:=hP.hi
 obtain⟨c,hc1,hc2⟩:=hI.head
 have hlen:=hI.len
 have MF:k.now=k.safe:=Rx hu
 refine(Du h.disk hd (by omega) rR (by omega) (by omega) (by omega) (by rw[hu];exact Nat.zero_le _) c (by rw[MF];exact hc1) q l l.length rfl hc2 (vB hI.room) (by rw[MF];exact hI.loads) (fun p hp=>by
  obtain⟨h1,h2⟩:=hI.val p hp
  rw[hlen]
  exact zN h1 h2)).mono ?_
 rintro e w' ⟨v,rfl,hres⟩
 rcases Ku hP hI hu hd hq with⟨f1,f2,f3,f4⟩|⟨f0,_⟩
 ·rcases hres with⟨-,bj,rfl,hbj,hK,S',hD,hS,hJ,hb⟩|⟨hne,-⟩
  ·refine⟨bj,S',_,rfl,⟨hD,hJ,hb,fun i hi=>?_,by omega⟩,f2,f3,f4.trans hc,Good.Ff h.disk hK,hK.below h.lo hB⟩
   rcases hS i hi with hs|hs
   ·exact h.lo i hs
   ·omega
  ·exact absurd f1 hne
 ·rw[hc]at f0;cases f0
theorem Ry(h:DO B w S b k){s:Nat}{c:Sx}(hc:k.now[s]? =some c)(hd:k.dead=false):
  Calls Tryz.prog 50 #[.pointer b,s] w fun e w'=>e=.returned (.tuple #[.slice w.heap.size 64 64,()])/\Bk w' w.heap.size 161 (Z7 c.b)/\Below w.heap.size w w':=
 Kt w S b k h.disk s c (Z7 c.b) (.int .u16 c.t) hc rfl (by rw[Z5,c.hb]) (YH _) hd
end
end Go.Proofs.YtmehhgfbnfbnaaaGreat.Zc
