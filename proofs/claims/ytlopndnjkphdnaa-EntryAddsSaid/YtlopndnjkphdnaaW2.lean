/-
  Package field's and the document's own Lay, Take and Fill: what each call returns, and what it leaves.
-/
import Derived.Test.YtlopndnjkphdnaaW1
namespace Go.Proofs.Ytlopndnjkphdnaa
open Go.RowKit

/-- What stands in the new block while numbers are laid. -/
def Laying (w : World) (g size : Nat) (L : List Nat) (j : Nat) (wr : World) : Prop := Bk wr g 5 (bytesV (filled size L j)) ∧ w.grownBy wr (some g)

theorem only_trans {a b c : World} {g : Nat} (h : a.grownBy b (some g)) (k : b.grownBy c (some g)) : a.grownBy c (some g) :=
  ⟨k.os.trans h.os, k.tape.trans h.tape, k.output.trans h.output, Nat.le_trans h.size k.size, fun i hi hne => (k.block i (Nat.lt_of_lt_of_le hi h.size) hne).trans (h.block i hi hne)⟩

theorem laying_step {w wr w' : World} {g size : Nat} {L : List Nat} {j : Nat} (hj : j < L.length) (h : Laying w g size L j wr) (h' : Storing wr g (filled size L j) (j * size) L[j] size w') :
    Laying w g size L (j + 1) w' := by
  refine ⟨?_, only_trans h.2 h'.2⟩
  have := h'.1
  rw [filled_step size L j hj] at this
  exact this

theorem rd_grown {w w' : World} {B : Nat} {A : Option Addr} {xs : List Value} {g : Nat} (h : Rd w B A xs) (hb : w.grownBy w' (some g)) (hB : B ≤ w.heap.size) (hg : B ≤ g) : Rd w' B A xs :=
  h.keep fun p hp => World.cell?_of_block (hb.block p.block (by omega) (by intro e; injection e; omega))

/-- What Lay comes to at a size that is right. -/
def LayPost (size : Nat) (L : List Nat) (w : World) (e : Ending) (w' : World) : Prop :=
  (layB size L = true → ∃ v, e = .returned (.tuple #[v, .int .i64 0]) ∧ Made w (layl size L) v w') ∧
  (layB size L = false → e = .returned (.tuple #[.slice none 0 0, .int .i64 4]) ∧ Below w.heap.size w w')

end Go.Proofs.Ytlopndnjkphdnaa
