import Derived.Test.YtmehhgfbnfbnaaaGreatQMetaR
import Derived.Test.YtmehhgfbnfbnaaaGreatQMetaA
import Derived.Test.YtmehhgfbnfbnaaaGreatQF
import Derived.Test.YtmehhgfbnfbnaaaGreatQInternB
import Derived.Test.YtmehhgfbnfbnaaaGreatQInodeB
import Derived.Test.YtmehhgfbnfbnaaaGreatQTk
set_option maxRecDepth 100000
set_option maxHeartbeats 25600000
open Option.some renaming inj->qaa
namespace Go.Proofs.YtmehhgfbnfbnaaaGreat.Meta
open Go.Proofs.YtmehhgfbnfbnaaaGreat
open Go.RowKit
section
variable {w:World}{base g n:Nat}{x:Int}{v:Value}{xs:List Value}
theorem Gx(w:World)(y:UInt8)(e:TypeId):Rd (w.alloc (.cells #[.int .u8 y.toNat] e)) (w.heap.size+1) (some ⟨w.heap.size,0,none⟩) (Z6 [y]):=by
 have h:=(Bk.new w e (Z6 [y])).rd 1 0
 simpa[Z6,XG]using h
theorem yJ{l:List Int}{a:Nat}(h:l[a]? =some x):XB (l.take (a+1))=XB (l.take a)++[UInt8.ofNat x.toNat]:=by
 rw[List.take_add_one,h]
 simp[XB]
theorem su(h:0<=x/\x<=16):x=((UInt8.ofNat x.toNat).toNat:Int):=by
 simp
 omega
def heads(m:Met):List (List UInt8):=[Z8.bytesOf m.rows,Ya (XB m.own) 64,m.used]
theorem yI{m:Met}{A0 A1 A2:Option Addr}{c0 c1 c2 n0 n1 n2:Nat}(l0:(Z8.bytesOf m.rows).length=n0)(l1:(Ya (XB m.own) 64).length=n1)(l2:m.used.length=n2)(hg:Bk w g 37 [.slice A0 n0 c0,.slice A1 n1 c1,.slice A2 n2 c2])(hb:base<=g)(h0:w.ownsRow base 5 1 (.slice A0 n0 c0) n0 (Z6 (Z8.bytesOf m.rows)))(h1:w.ownsRow base 5 1 (.slice A1 n1 c1) n1 (Z6 (Ya (XB m.own) 64)))(h2:w.ownsRow base 5 1 (.slice A2 n2 c2) n2 (Z6 m.used)):
  Zx w base (.slice g 3 3) [⟨A0,c0⟩,⟨A1,c1⟩,⟨A2,c2⟩] (heads m):=by
 subst l0 l1 l2
 refine⟨rfl,hg.own 3 rfl hb (by decide),fun i s b e1 e2=>?_⟩
 match i with
 |0=>
  obtain rfl:_=s:=qaa (show some (⟨A0,c0⟩:Sc)=some s from e1)
  obtain rfl:_=b:=qaa (show some (Z8.bytesOf m.rows)=some b from e2)
  exact h0
 |1=>
  obtain rfl:_=s:=qaa (show some (⟨A1,c1⟩:Sc)=some s from e1)
  obtain rfl:_=b:=qaa (show some (Ya (XB m.own) 64)=some b from e2)
  exact h1
 |2=>
  obtain rfl:_=s:=qaa (show some (⟨A2,c2⟩:Sc)=some s from e1)
  obtain rfl:_=b:=qaa (show some m.used=some b from e2)
  exact h2
 |k+3=>simp at e1
theorem R6{e1 e2:TypeId}{s:Nat}{ys:List Value}(h1:Bk w g e1 xs)(h2:w.ownsRow base e2 s v n ys)(hne:e1≠e2):some g≠v.ownBlock:=by
 rcases h2.2 with⟨rfl,_⟩|⟨g2,c2,JF,rfl,_,hg2,_⟩
 ·simp[Value.ownBlock]
 ·intro h
  have e:g=g2:=by simpa[Value.ownBlock]using h
  subst e
  unfold Bk at h1
  rw[h1]at hg2
  simp only[Option.some.injEq,Obj.cells.injEq]at hg2
  exact hne hg2.2.1
theorem Z0(w:World)(o:Obj):Below w.heap.size w (w.alloc o):=(Below.refl _ w).alloc (Nat.le_refl _) _
theorem Yu(n:Z9.ZC)(h:Z9.YP n):(Tryz.prog.info? 40).map (·.size)=some (Z9.ZX n).length:=by rw[uJ,Z9.Y5 h]
theorem UB{e:TypeId}(h:w.ownsRow base e 1 v n xs):∃A c,v=.slice A n c:=by
 obtain⟨_,A,c,hv,_⟩:=Yx h
 exact⟨A,c,hv⟩
end
end Go.Proofs.YtmehhgfbnfbnaaaGreat.Meta
