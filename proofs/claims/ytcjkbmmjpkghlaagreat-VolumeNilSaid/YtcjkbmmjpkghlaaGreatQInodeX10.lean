/-
  The inode that bytes stand for: the document's Take.
-/
import Derived.Test.YtcjkbmmjpkghlaaGreatQInodeB
namespace Go.Proofs.YtcjkbmmjpkghlaaGreat.Inode
open Go.RowKit

/-- The direct pointers, the first j of them filled in. -/
def partD (T : List Int) (j : Nat) : List Int := T.take j ++ List.replicate (8 - j) 0
theorem partD_step {T : List Int} (hT : T.length = 8) {j : Nat} {x : Int} (h : T[j]? = some x) : (partD T j).set j x = partD T (j + 1) := by
  obtain ⟨hj, rfl⟩ := List.getElem?_eq_some_iff.1 h
  unfold partD
  have hl : (T.take j).length = j := by simp; omega
  rw [List.set_append_right _ _ (by omega), hl, Nat.sub_self, show 8 - j = (8 - (j + 1)) + 1 by omega, List.replicate_succ, List.set_cons_zero, List.take_succ_eq_append_getElem hj, List.append_assoc]
  rfl
theorem length_partD {T : List Int} (hT : T.length = 8) {j : Nat} (hj : j ≤ 8) : (partD T j).length = 8 := by simp [partD, hT]; omega
theorem partD_all {T : List Int} (hT : T.length = 8) : partD T 8 = T := by
  unfold partD
  rw [List.take_of_length_le (by omega)]
  simp
def cellsD (k r n0 n1 : Nat) (D : List Int) (i d : Nat) : List Value := .int .u8 (k : Int) :: .int .u8 (r : Int) :: .int .i64 (n0 : Int) :: .int .i64 (n1 : Int) :: (intsV D ++ [.int .i64 (i : Int), .int .i64 (d : Int)])
theorem cellsD_set (k r n0 n1 : Nat) (D : List Int) (i d : Nat) (j : Nat) (x : Int) (hj : j < D.length) : (cellsD k r n0 n1 D i d).set (4 + j) (.int .i64 x) = cellsD k r n0 n1 (D.set j x) i d := by
  unfold cellsD
  rw [show 4 + j = j + 1 + 1 + 1 + 1 by omega, List.set_cons_succ, List.set_cons_succ, List.set_cons_succ, List.set_cons_succ, List.set_append_left _ _ (by rw [length_intsV]; exact hj), intsV_set]
theorem length_cellsD (k r n0 n1 : Nat) (D : List Int) (i d : Nat) (hD : D.length = 8) : (cellsD k r n0 n1 D i d).length = 14 := by simp [cellsD, length_intsV, hD]

theorem part_goal {P Q : Prop} (h : Hid P → Q) (p : P) : Q := h (Lib.hid p)

end Go.Proofs.YtcjkbmmjpkghlaaGreat.Inode
