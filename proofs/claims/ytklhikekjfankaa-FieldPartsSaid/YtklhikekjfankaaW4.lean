/-
  The document's examples, as the statements show them at their head: true at every world.
-/
import Derived.Test.YtklhikekjfankaaW3
namespace Go.Proofs.Ytklhikekjfankaa
open Go.RowKit

theorem str_fact {w w' : World} {A : Option Addr} {n c : Nat} {l : List UInt8} (hr : Rd w w.heap.size A (bytesV l)) (hb : Below w.heap.size w w') (hn : l.length = n) :
    (convert 22 9 (.slice A n c)).run Try.prog w' = .ok (.string ⟨l.toArray⟩) w' :=
  run_str w' 22 9 5 Try.underlying22 Try.underlying5 Try.underlying9 w.heap.size A n c l hn (hr.below hb)

theorem set_shown (w : World) : Calls Try.prog 14 #[.slice (some ⟨w.heap.size, 0, none⟩) 4 4, .int .i64 1, .int .i64 2, .int .u64 258] (w.alloc (.cells #[.int .u8 9, .int .u8 9, .int .u8 9, .int .u8 9] 5))
    fun e w' => ∃ v, e = .returned (.tuple #[v, .int .i64 0]) ∧ Made (w.alloc (.cells #[.int .u8 9, .int .u8 9, .int .u8 9, .int .u8 9] 5)) [9, 2, 1, 9] v w' := by
  have hr : Rd (w.alloc (.cells #[.int .u8 9, .int .u8 9, .int .u8 9, .int .u8 9] 5)) (w.alloc (.cells #[.int .u8 9, .int .u8 9, .int .u8 9, .int .u8 9] 5)).heap.size (some ⟨w.heap.size, 0, none⟩) (bytesV [9, 9, 9, 9]) :=
    (Bk.new w 5 (bytesV [9, 9, 9, 9])).rd 4 0
  exact set_ok [9, 9, 9, 9] _ 4 4 1 2 258 _ rfl hr (by omega) (by omega) (by omega) (by omega) (by omega) (by decide)

theorem get_shown (A : Option Addr) (c : Nat) (w : World) (hr : Rd w w.heap.size A (bytesV [9, 2, 1, 9])) (hc : 4 ≤ c) :
    Calls Try.prog 12 #[.slice A 4 c, .int .i64 1, .int .i64 2] w fun e w' => e = .returned (.tuple #[.int .u64 258, .int .i64 0]) ∧ w = w' :=
  get_ok [9, 2, 1, 9] A 4 c _ 1 2 w rfl hr hc (by omega) (by omega) (by omega) (by omega)

theorem lay_shown (w : World) : Calls Try.prog 16 #[.int .i64 2, .slice (some ⟨w.heap.size, 0, none⟩) 2 2] (w.alloc (.cells #[.int .u64 1, .int .u64 256] 23))
    fun e w' => ∃ v, e = .returned (.tuple #[v, .int .i64 0]) ∧ Made (w.alloc (.cells #[.int .u64 1, .int .u64 256] 23)) [1, 0, 0, 1] v w' := by
  have hr : Rd (w.alloc (.cells #[.int .u64 1, .int .u64 256] 23)) (w.alloc (.cells #[.int .u64 1, .int .u64 256] 23)).heap.size (some ⟨w.heap.size, 0, none⟩) (numsV [1, 256]) :=
    (Bk.new w 23 (numsV [1, 256])).rd 2 0
  exact lay_ok [1, 256] _ 2 2 2 _ rfl hr (by omega) (by omega) (by decide) (by decide) (by omega)

set_option maxHeartbeats 400000 in
theorem shown_any (w : World) : Calls Try.prog 10 #[] w fun e w' => e = .returned (.bool true) ∧ Below w.heap.size w w' := by
  go_enter Try.func10, Try.ntmps10
  go_wp2_with (first
    | (go_at_call 14; refine (set_shown w).mono ?_; rintro e w1 ⟨v1, rfl, hown1, hbe1⟩; obtain ⟨_, A1, c1, rfl, hc1, _, hrd1⟩ := own_rd hown1; clear hown1)
    | (go_at_call 12; refine (get_shown A1 c1 w1 hrd1 hc1).mono ?_; rintro e w2 ⟨rfl, rfl⟩)
    | (go_at_call 16; refine (lay_shown w1).mono ?_; rintro e w3 ⟨v3, rfl, hown3, hbe3⟩; obtain ⟨_, A3, c3, rfl, hc3, _, hrd3⟩ := own_rd hown3; clear hown3; have hz : w1.heap.size ≤ (w1.alloc (.cells #[.int .u64 1, .int .u64 256] 23)).heap.size := (by simp); have hbe13 : Below w1.heap.size w1 w3 := ((Below.refl _ _).alloc (Nat.le_refl _) _).trans (hbe3.mono hz); have hcv1 := str_fact (n := 4) (c := c1) hrd1 hbe13 rfl; have hcv3 := str_fact (n := 4) (c := c3) hrd3 (Below.refl _ _) rfl))
  go_ret
  refine ⟨rfl, ?_⟩
  have h1 : Below w.heap.size w w1 := ((Below.refl _ _).alloc (Nat.le_refl _) _).trans (hbe1.mono (by simp))
  exact h1.trans (hbe13.mono h1.size)
end Go.Proofs.Ytklhikekjfankaa
