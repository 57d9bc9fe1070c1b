/-
  The document's examples, as the statements show them at their head: true at every world.
-/
import Derived.Test.YtkihhhcjmlcmpaaDoorW4
namespace Go.Proofs.YtkihhhcjmlcmpaaDoor
open Go.RowKit

theorem of_313 (w : World) : Calls Tryd.prog 10 #[.slice (some ⟨w.heap.size, 0, none⟩) 3 3] (w.alloc (.cells #[.int .i64 3, .int .i64 1, .int .i64 3] 3))
    fun e w' => e = .returned (.tuple #[.int .u16 10, .int .i64 0]) ∧ w.alloc (.cells #[.int .i64 3, .int .i64 1, .int .i64 3] 3) = w' := by
  have h := of_any [3, 1, 3] (some ⟨w.heap.size, 0, none⟩) 3 3 _ _ rfl ((Bk.new w 3 (intsV [3, 1, 3])).rd 3 0) (by omega)
  have e1 : ofA [3, 1, 3] = 10 := of_shown.1
  have e2 : ofE [3, 1, 3] = 0 := of_shown.2
  rw [e1, e2] at h
  exact h
theorem parse_31 (w : World) (hm : MaxAt w) : Calls Tryd.prog 24 #[.string ⟨#[91, 51, 44, 49, 93]⟩] w
    fun e w' => (∃ a : Int, e = .returned (.tuple #[.int .u16 a, .int .i64 40])) ∧ Below w.heap.size w w' := by
  have h := parse_any ⟨#[91, 51, 44, 49, 93]⟩ w (by decide) hm
  have e2 : parE (⟨#[91, 51, 44, 49, 93]⟩ : ByteArray).data.toList = 40 := parse_shown
  rw [e2] at h
  exact h.mono fun e w' ⟨h1, h2⟩ => ⟨⟨_, h1⟩, h2⟩
theorem text_13 (w : World) : Calls Tryd.prog 26 #[.int .u16 10] w fun e w' => e = .returned (.string ⟨#[91, 49, 44, 51, 93]⟩) ∧ Below w.heap.size w w' := by
  have h := text_any 10 w (by omega)
  rw [text_shown.1] at h
  exact h
theorem text_0 (w : World) : Calls Tryd.prog 26 #[.int .u16 0] w fun e w' => e = .returned (.string ⟨#[91, 93]⟩) ∧ Below w.heap.size w w' := by
  have h := text_any 0 w (by omega)
  rw [text_shown.2] at h
  exact h
theorem flows_2_10 (w : World) : Calls Tryd.prog 16 #[.int .u16 2, .int .u16 10] w fun e w' => e = .returned (.bool true) ∧ w = w' := by
  have h := flows_any 2 10 w (by omega) (by omega)
  rw [flow_shown.1] at h
  exact h
theorem flows_2_8 (w : World) : Calls Tryd.prog 16 #[.int .u16 2, .int .u16 8] w fun e w' => e = .returned (.bool false) ∧ w = w' := by
  have h := flows_any 2 8 w (by omega) (by omega)
  rw [flow_shown.2] at h
  exact h
theorem join_2_8 (w : World) : Calls Tryd.prog 18 #[.int .u16 2, .int .u16 8] w fun e w' => e = .returned (.int .u16 10) ∧ w = w' :=
  join_any 2 8 w (by omega) (by omega)

set_option maxHeartbeats 400000 in
theorem shown_any (w : World) (hm : MaxAt w) : Calls Tryd.prog 12 #[] w fun e w' => e = .returned (.bool true) ∧ Below w.heap.size w w' := by
  have hm0 : MaxAt (w.alloc (.cells #[.int .i64 3, .int .i64 1, .int .i64 3] 3)) := hm.below ((Below.refl _ _).alloc (Nat.le_refl _) _)
  go_enter Tryd.func12, Tryd.ntmps12
  go_wp2_with (first
    | (go_at_call 10; refine (of_313 w).mono ?_; rintro e w1 ⟨rfl, rfl⟩)
    | (go_at_call 24; refine (parse_31 _ hm0).mono ?_; rintro e w2 ⟨⟨a2, rfl⟩, hb2⟩)
    | (go_at_call 26; (with_reducible refine (text_13 _).mono ?_); rintro e w3 ⟨rfl, hb3⟩)
    | (go_at_call 26; (with_reducible refine (text_0 _).mono ?_); rintro e w4 ⟨rfl, hb4⟩)
    | (go_at_call 16; (with_reducible refine (flows_2_10 _).mono ?_); rintro e w' ⟨rfl, rfl⟩)
    | (go_at_call 16; (with_reducible refine (flows_2_8 _).mono ?_); rintro e w' ⟨rfl, rfl⟩)
    | (go_at_call 18; refine (join_2_8 _).mono ?_; rintro e w' ⟨rfl, rfl⟩))
  go_ret
  refine ⟨rfl, ?_⟩
  have h1 : Below w.heap.size w w2 := ((Below.refl _ _).alloc (Nat.le_refl _) _).trans (hb2.mono (by simp))
  have h2 := h1.trans (hb3.mono h1.size)
  exact h2.trans (hb4.mono h2.size)
end Go.Proofs.YtkihhhcjmlcmpaaDoor
