/-
  What is known, taken of sectors, as the document takes it.
-/
import Derived.Test.YtcjkbmmjpkghlaaGreatQMetaA
import Derived.Test.YtcjkbmmjpkghlaaGreatQMetaU
import Derived.Test.YtcjkbmmjpkghlaaGreatQMetaL
import Derived.Test.YtcjkbmmjpkghlaaGreatQMetaN2
import Derived.Test.YtcjkbmmjpkghlaaGreatQMetaQ
import Derived.Test.YtcjkbmmjpkghlaaGreatQInodeX10
import Derived.Test.YtcjkbmmjpkghlaaGreatQSuper
namespace Go.Proofs.YtcjkbmmjpkghlaaGreat.Meta
open Go.Proofs.YtcjkbmmjpkghlaaGreat
open Go.RowKit

def nil4 : List Value := [.slice none 0 0, .slice none 0 0, .slice none 0 0, .slice none 0 0]
theorem four_frozen {w : World} {g : Nat} {e : TypeId} {a0 a1 a2 a3 : Value} (h : Bk w g e [a0, a1, a2, a3]) : w.frozen? ⟨g, 0, none⟩ = false ∧ w.frozen? ⟨g, 1, none⟩ = false ∧ w.frozen? ⟨g, 2, none⟩ = false ∧ w.frozen? ⟨g, 3, none⟩ = false :=
  ⟨h.frozen 0, h.frozen 1, h.frozen 2, h.frozen 3⟩
/-- The four cells of the answer, written. -/
def put4 (V : World) (b : Nat) (a0 a1 a2 a3 : Value) : World := (((V.setCell ⟨b, 0, none⟩ a0).setCell ⟨b, 1, none⟩ a1).setCell ⟨b, 2, none⟩ a2).setCell ⟨b, 3, none⟩ a3
theorem put4_bk {V : World} {b : Nat} {e : TypeId} {c0 c1 c2 c3 a0 a1 a2 a3 : Value} (h : Bk V b e [c0, c1, c2, c3]) : Bk (put4 V b a0 a1 a2 a3) b e [a0, a1, a2, a3] :=
  (((h.set 0 a0).set 1 a1).set 2 a2).set 3 a3
theorem put4_below {w V : World} {B b : Nat} (h : Below B w V) (hb : B ≤ b) (a0 a1 a2 a3 : Value) : Below B w (put4 V b a0 a1 a2 a3) :=
  (((h.setCell hb a0).setCell hb a1).setCell hb a2).setCell hb a3
theorem ownM_set {u : World} {b g : Nat} {cs : List Value} {x : Mem} {m : Met} (hB : Bk u g 60 cs) (ho : OwnM u b x m) (j : Nat) (v : Value) : OwnM (u.setCell ⟨g, j, none⟩ v) b x m := by
  have hg : u.grownBy (u.setCell ⟨g, j, none⟩ v) (some g) := only_set (World.grownBy.refl _ _) j v
  exact ⟨ho.rows.kept hg (.inr (Ne.symm (bk_ne hB ho.rows (by decide)))), ho.own.kept hg (.inr (Ne.symm (bk_ne hB ho.own (by decide)))),
    ho.used.kept hg (.inr (Ne.symm (bk_ne hB ho.used (by decide)))), ho.ino.kept hg (.inr (Ne.symm (bk_ne hB ho.ino (by decide))))⟩
end Go.Proofs.YtcjkbmmjpkghlaaGreat.Meta
