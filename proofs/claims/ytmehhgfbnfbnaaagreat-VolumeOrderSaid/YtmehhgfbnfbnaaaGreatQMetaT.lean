import Derived.Test.YtmehhgfbnfbnaaaGreatQMetaA
import Derived.Test.YtmehhgfbnfbnaaaGreatQMetaU
import Derived.Test.YtmehhgfbnfbnaaaGreatQMetaL
import Derived.Test.YtmehhgfbnfbnaaaGreatQMetaN2
import Derived.Test.YtmehhgfbnfbnaaaGreatQMetaQ
import Derived.Test.YtmehhgfbnfbnaaaGreatQInodeX10
import Derived.Test.YtmehhgfbnfbnaaaGreatQSuper
import Derived.Test.YtmehhgfbnfbnaaaGreatQTk
set_option maxRecDepth 100000
set_option maxHeartbeats 25600000
namespace Go.Proofs.YtmehhgfbnfbnaaaGreat.Meta
open Go.Proofs.YtmehhgfbnfbnaaaGreat
open Go.RowKit
section
variable {b g:Nat}{w V:World}{e:TypeId}{a0 a1 a2 a3:Value}
theorem Zr(h:Bk w g e [a0,a1,a2,a3]):w.frozen? ⟨g,0,none⟩=false/\w.frozen? ⟨g,1,none⟩=false/\w.frozen? ⟨g,2,none⟩=false/\w.frozen? ⟨g,3,none⟩=false:=
 ⟨h.frozen 0,h.frozen 1,h.frozen 2,h.frozen 3⟩
def X7(V:World)(b:Nat)(a0 a1 a2 a3:Value):World:=(((V.setCell ⟨b,0,none⟩ a0).setCell ⟨b,1,none⟩ a1).setCell ⟨b,2,none⟩ a2).setCell ⟨b,3,none⟩ a3
theorem Je{c0 c1 c2 c3:Value}(h:Bk V b e [c0,c1,c2,c3]):Bk (X7 V b a0 a1 a2 a3) b e [a0,a1,a2,a3]:=
 (((h.set 0 a0).set 1 a1).set 2 a2).set 3 a3
theorem Ru{B:Nat}(h:Below B w V)(hb:B<=b)(a0 a1 a2 a3:Value):Below B w (X7 V b a0 a1 a2 a3):=
 (((h.setCell hb a0).setCell hb a1).setCell hb a2).setCell hb a3
theorem We{u:World}{cs:List Value}{x:Mem}{m:Met}(hB:Bk u g 60 cs)(ho:Y1 u b x m)(j:Nat)(v:Value):Y1 (u.setCell ⟨g,j,none⟩ v) b x m:=by
 have hg:u.grownBy (u.setCell ⟨g,j,none⟩ v) (some g):=ZT (World.grownBy.refl _ _) j v
 exact⟨ho.rows.kept hg (.inr (Ne.symm (R6 hB ho.rows (by decide)))),ho.own.kept hg (.inr (Ne.symm (R6 hB ho.own (by decide)))),
  ho.used.kept hg (.inr (Ne.symm (R6 hB ho.used (by decide)))),ho.ino.kept hg (.inr (Ne.symm (R6 hB ho.ino (by decide))))⟩
end
end Go.Proofs.YtmehhgfbnfbnaaaGreat.Meta
