/-
  The small functions of package label and of the document's own answer: what each call returns.
-/
import Derived.Test.YtnahccdjeilboaaRows
import Derived.Test.YtnahccdjeilboaaL
import Derived.Test.YtnahccdjeilboaaA
import Derived.WalkKit
import Derived.WalkSpells
import Derived.BigQuiet
import Derived.Deep.QuietTactic
import Derived.Lib.Hide
namespace Go.Proofs.Ytnahccdjeilboaa
open Go.RowKit

theorem ret_u16 {a b : Int} (h : a = b) : Ending.returned (.int .u16 a) = .returned (.int .u16 b) := by rw [h]
theorem ret_bool {a b : Bool} (h : a = b) : Ending.returned (.bool a) = .returned (.bool b) := by rw [h]

theorem has_any (a k : Nat) (w : World) (ha : a < 65536) (hk : k < 16) :
    Calls Try.prog 34 #[.int .u16 (a : Int), .int .i64 (k : Int)] w fun e w' => e = .returned (.bool (a.testBit k)) ∧ w = w' := by
  go_enter Try.func34, Try.ntmps34
  go_wp2
  go_loop [5, 6] (fun n i => ∃ j : Nat, j ≤ k ∧ i = .int .i64 j ∧ (∃ m : Nat, Hid (m = a / 2 ^ j) ∧ m < 65536 ∧ n = .int .i64 (m : Int))) (fun _ i => k - (intOf i).toNat)
  case atStart => exact ⟨0, Nat.zero_le _, rfl, a, (by simp : a = a / 2 ^ 0), ha, rfl⟩
  case round =>
    obtain ⟨j, hj, rfl, m, Hm, hm, rfl⟩ := hrel
    by_cases hlt : j < k
    · go_wp2
      go_round
      case rel => exact ⟨j + 1, by omega, by go_num, m / 2, (by rw [Hm.out, Nat.div_div_eq_div_mul, Nat.pow_succ] : m / 2 = a / 2 ^ (j + 1)), by omega, by go_num⟩
      case measure => simp [intOf]; omega
    · go_wp2
      go_ret
      refine ⟨ret_bool ?_, rfl⟩
      obtain rfl : j = k := by omega
      rw [Nat.testBit_eq_decide_div_mod_eq, ← Hm.out, Bool.eq_iff_iff]
      simp
      omega

theorem flows_any (a b : Nat) (w : World) (ha : a < 65536) (hb : b < 65536) :
    Calls Try.prog 20 #[.int .u16 (a : Int), .int .u16 (b : Int)] w fun e w' => e = .returned (.bool (flowB a b)) ∧ w = w' := by
  go_enter Try.func20, Try.ntmps20
  go_wp2
  go_ret
  refine ⟨ret_bool ?_, rfl⟩
  rw [u16_andNot_nat _ _ ha hb, ← flowB_andNot ha hb, Bool.eq_iff_iff]
  simp
/-- What Compare answers of two numbers. -/
def cmpI (x y : Nat) : Int := if x = y then 0 else if x < y then -1 else 1
theorem ret_i64 {a b : Int} (h : a = b) : Ending.returned (.int .i64 a) = .returned (.int .i64 b) := by rw [h]
def Flown (a b j : Nat) : Prop := ∀ k, k < j → a.testBit k = true → b.testBit k = true
theorem Flown.no {a b j : Nat} (ha : a.testBit j = true) (hb : b.testBit j = false) : flowB a b = false := by
  rw [Bool.eq_false_iff]
  intro h
  rw [flowB_iff.1 h j ha] at hb
  cases hb
theorem Flown.step {a b j : Nat} (h : Flown a b j) (hab : a.testBit j = false ∨ b.testBit j = true) : Flown a b (j + 1) := by
  intro k hk hak
  by_cases e : k = j
  · subst e
    rcases hab with h | h
    · rw [h] at hak; cases hak
    · exact h
  · exact h k (by omega) hak
theorem Flown.done {a b : Nat} (h : Flown a b 16) (ha : a < 65536) : flowB a b = true := by
  rw [flowB_iff]
  intro k hk
  by_cases h16 : k < 16
  · exact h k h16 hk
  · rw [lab_bit ha (by omega)] at hk; cases hk

set_option maxHeartbeats 400000 in
theorem rflows_any (a b : Nat) (w : World) (ha : a < 65536) (hb : b < 65536) :
    Calls Try.prog 33 #[.int .u16 (a : Int), .int .u16 (b : Int)] w fun e w' => e = .returned (.bool (flowB a b)) ∧ w = w' := by
  go_enter Try.func33, Try.ntmps33
  go_wp2
  go_loop [5] (fun i => ∃ j : Nat, j ≤ 16 ∧ i = .int .i64 (j : Int) ∧ Flown a b j) (fun i => 16 - (intOf i).toNat)
  case atStart => exact ⟨0, by omega, rfl, fun k hk => absurd hk (by omega)⟩
  case round =>
    obtain ⟨j, hj, rfl, hF⟩ := hrel
    by_cases hlt : j < 16
    · cases h1 : a.testBit j <;> cases h2 : b.testBit j
      case true.false =>
        have Hno := Lib.hid (Flown.no h1 h2)
        have H1 := Lib.hid h1
        have H2 := Lib.hid h2
        clear h1 h2 hF
        go_wp2_with (go_at_call 34; refine (has_any _ _ _ (by omega) hlt).mono ?_; rintro e w' ⟨rfl, rfl⟩; first | rw [H1.out] | rw [H2.out])
        go_ret
        exact ⟨ret_bool Hno.out.symm, rfl⟩
      all_goals
        have hF' := hF.step (by simp [h1, h2])
        have H1 := Lib.hid h1
        have H2 := Lib.hid h2
        clear h1 h2 hF
        go_wp2_with (go_at_call 34; refine (has_any _ _ _ (by omega) hlt).mono ?_; rintro e w' ⟨rfl, rfl⟩; first | rw [H1.out] | rw [H2.out])
        go_round
        case rel => exact ⟨j + 1, by omega, by go_num, hF'⟩
        case measure => simp [intOf]; omega
    · go_wp2
      go_ret
      obtain rfl : j = 16 := by omega
      exact ⟨ret_bool (hF.done ha).symm, rfl⟩
end Go.Proofs.Ytnahccdjeilboaa
