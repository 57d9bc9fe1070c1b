/-
  Facts of this program that every statement's proof wants: the document's examples hold.
-/
import Derived.Test.YtnplbehnlmlodaaW4
import Derived.ProofKit
import Derived.OpenShut
namespace Go.Proofs.Ytnplbehnlmlodaa
open Go.ChangeShapes Go.WideShapes Go.ChangeAt Go.RowKit

theorem turn_ii (w : World) : Calls Try.prog 11 #[.agg #[.int .i64 0, .int .i64 1], .agg #[.int .i64 0, .int .i64 1]] w fun e w' => e = .returned (.agg #[.int .i64 256, .int .i64 0]) ∧ Below w.heap.size w w' := turn_any 0 1 0 1 w
theorem of_nil (w : World) : Calls Try.prog 19 #[.string ⟨#[]⟩] w fun e w' => e = .returned (.agg #[.int .i64 1, .int .i64 0]) ∧ Below w.heap.size w w' := of_any ⟨#[]⟩ w (by decide)
theorem of_a (w : World) : Calls Try.prog 19 #[.string ⟨#[97]⟩] w fun e w' => e = .returned (.agg #[.int .i64 101, .int .i64 8]) ∧ Below w.heap.size w w' := by
  have h := of_any ⟨#[97]⟩ w (by decide)
  rw [show ofX (ByteArray.mk #[97]).data.toList = 101 by decide, show ofY (ByteArray.mk #[97]).data.toList = 8 by decide] at h
  exact h
set_option maxRecDepth 100000 in
theorem shown_any (w : World) : Calls Try.prog 10 #[] w fun e w' => e = .returned (.bool true) ∧ Below w.heap.size w w' := by
  have eq := spin_eql
  have gd := guard_at
  go_enter Try.func10, Try.ntmps10
  go_wp2_with (first
    | (go_at_call 11; refine (turn_ii _).mono ?_; rintro e w1 ⟨rfl, hb1⟩)
    | (go_at_call 19; (with_reducible refine (of_nil _).mono ?_); rintro e w2 ⟨rfl, hb2⟩)
    | (go_at_call 19; (with_reducible refine (of_a _).mono ?_); rintro e w3 ⟨rfl, hb3⟩))
  go_ret
  exact ⟨rfl, hb1.trans ((hb2.trans (hb3.mono hb2.size)).mono hb1.size)⟩
end Go.Proofs.Ytnplbehnlmlodaa
