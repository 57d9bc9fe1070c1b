/-
  The small functions of package label and of the document's own answer: what each call returns.
-/
import Derived.Test.YtkihhhcjmlcmpaaDoorRows
import Derived.Test.YtkihhhcjmlcmpaaDoorL
import Derived.Test.YtkihhhcjmlcmpaaDoorB
import Derived.WalkKit
import Derived.WalkSpells
import Derived.BigQuiet
import Derived.Deep.QuietTactic
import Derived.Lib.Hide
namespace Go.Proofs.YtkihhhcjmlcmpaaDoor
open Go.RowKit

theorem ret_u16 {a b : Int} (h : a = b) : Ending.returned (.int .u16 a) = .returned (.int .u16 b) := by rw [h]
theorem ret_bool {a b : Bool} (h : a = b) : Ending.returned (.bool a) = .returned (.bool b) := by rw [h]

theorem with_any (a k : Nat) (w : World) (ha : a < 65536) (hk : k < 16) :
    Calls Tryd.prog 28 #[.int .u16 (a : Int), .int .i64 (k : Int)] w fun e w' => e = .returned (.int .u16 (wth a k : Nat)) ∧ w = w' := by
  go_enter Tryd.func28, Tryd.ntmps28
  go_wp2
  go_ret
  refine ⟨ret_u16 ?_, rfl⟩
  have e : IntKind.u16.wrap ((2 : Int) ^ k) = ((2 ^ k : Nat) : Int) := by
    have h2 : 2 ^ k ≤ 2 ^ 15 := Nat.pow_le_pow_right (by omega) (by omega)
    have h3 : ((2 : Int) ^ k) = ((2 ^ k : Nat) : Int) := by simp
    rw [h3, IntKind.wrap_u16]
    generalize 2 ^ k = q at *
    omega
  have h2 : 2 ^ k < 65536 := by
    have h2 : 2 ^ k ≤ 2 ^ 15 := Nat.pow_le_pow_right (by omega) (by omega)
    omega
  rw [e, u16_or_nat _ _ ha h2]
  rfl

theorem has_any (a k : Nat) (w : World) (ha : a < 65536) (hk : k < 16) :
    Calls Tryd.prog 29 #[.int .u16 (a : Int), .int .i64 (k : Int)] w fun e w' => e = .returned (.bool (a.testBit k)) ∧ w = w' := by
  go_enter Tryd.func29, Tryd.ntmps29
  go_wp2
  go_loop [5, 6] (fun n i => ∃ j : Nat, j ≤ k ∧ i = .int .i64 j ∧ (∃ m : Nat, Hid (m = a / 2 ^ j) ∧ m < 65536 ∧ n = .int .i64 (m : Int))) (fun _ i => k - (intOf i).toNat)
  case atStart => exact ⟨0, Nat.zero_le _, rfl, a, (by simp : a = a / 2 ^ 0), ha, rfl⟩
  case round =>
    obtain ⟨j, hj, rfl, m, Hm, hm, rfl⟩ := hrel
    by_cases hlt : j < k
    · go_wp2
      go_round
      case rel => exact ⟨j + 1, by omega, by go_num, m / 2, (by rw [Hm.out, Nat.div_div_eq_div_mul, Nat.pow_succ] : m / 2 = a / 2 ^ (j + 1)), by omega, by go_num⟩
      case measure => simp [intOf]; omega
    · go_wp2
      go_ret
      refine ⟨ret_bool ?_, rfl⟩
      obtain rfl : j = k := by omega
      rw [Nat.testBit_eq_decide_div_mod_eq, ← Hm.out, Bool.eq_iff_iff]
      simp
      omega

theorem rwith_any (a k : Nat) (w : World) (ha : a < 65536) (hk : k < 16) (h : a.testBit k = false) :
    Calls Tryd.prog 30 #[.int .u16 (a : Int), .int .i64 (k : Int)] w fun e w' => e = .returned (.int .u16 (wth a k : Nat)) ∧ w = w' := by
  have H := Lib.hid h
  clear h
  go_enter Tryd.func30, Tryd.ntmps30
  go_wp2
  go_loop [5, 6] (fun n i => ∃ j : Nat, j ≤ k ∧ i = .int .i64 j ∧ (∃ m : Nat, Hid (m = 2 ^ j) ∧ m < 65536 ∧ n = .int .u16 (m : Int))) (fun _ i => k - (intOf i).toNat)
  case atStart => exact ⟨0, Nat.zero_le _, rfl, 1, (rfl : 1 = 2 ^ 0), by omega, rfl⟩
  case round =>
    obtain ⟨j, hj, rfl, m, Hm, hm, rfl⟩ := hrel
    by_cases hlt : j < k
    · have hm2 : m * 2 < 65536 := by
        have : m * 2 = 2 ^ (j + 1) := by rw [Hm.out, Nat.pow_succ]
        have h2 : 2 ^ (j + 1) ≤ 2 ^ 15 := Nat.pow_le_pow_right (by omega) (by omega)
        omega
      go_wp2
      go_round
      case rel => exact ⟨j + 1, by omega, by go_num, m * 2, (by rw [Hm.out, Nat.pow_succ] : m * 2 = 2 ^ (j + 1)), hm2, by first | go_num | (rw [IntKind.wrap_u16]; congr 1; omega)⟩
      case measure => simp [intOf]; omega
    · go_wp2
      go_ret
      refine ⟨ret_u16 ?_, rfl⟩
      obtain rfl : j = k := by omega
      have h1 := wth_add H.out
      have h2 := wth_lt ha hk
      rw [← Hm.out] at h1
      rw [IntKind.wrap_u16]
      omega

theorem flows_any (a b : Nat) (w : World) (ha : a < 65536) (hb : b < 65536) :
    Calls Tryd.prog 16 #[.int .u16 (a : Int), .int .u16 (b : Int)] w fun e w' => e = .returned (.bool (flowB a b)) ∧ w = w' := by
  go_enter Tryd.func16, Tryd.ntmps16
  go_wp2
  go_ret
  refine ⟨ret_bool ?_, rfl⟩
  rw [u16_andNot_nat _ _ ha hb, ← flowB_andNot ha hb, Bool.eq_iff_iff]
  simp
theorem join_any (a b : Nat) (w : World) (ha : a < 65536) (hb : b < 65536) :
    Calls Tryd.prog 18 #[.int .u16 (a : Int), .int .u16 (b : Int)] w fun e w' => e = .returned (.int .u16 (a ||| b : Nat)) ∧ w = w' := by
  go_enter Tryd.func18, Tryd.ntmps18
  go_wp2
  go_ret
  refine ⟨ret_u16 ?_, rfl⟩
  exact u16_or_nat _ _ ha hb
theorem meet_any (a b : Nat) (w : World) (ha : a < 65536) (hb : b < 65536) :
    Calls Tryd.prog 20 #[.int .u16 (a : Int), .int .u16 (b : Int)] w fun e w' => e = .returned (.int .u16 (a &&& b : Nat)) ∧ w = w' := by
  go_enter Tryd.func20, Tryd.ntmps20
  go_wp2
  go_ret
  refine ⟨ret_u16 ?_, rfl⟩
  exact u16_and_nat _ _ ha hb
theorem digit_any (c : UInt8) (w : World) :
    Calls Tryd.prog 40 #[.int .u8 (c.toNat : Int)] w fun e w' => e = .returned (.bool (digitB c)) ∧ w = w' := by
  have hc := c.toNat_lt
  go_enter Tryd.func40, Tryd.ntmps40
  go_wp2
  all_goals go_ret
  all_goals refine ⟨ret_bool ?_, rfl⟩
  all_goals (unfold digitB; rw [Bool.eq_iff_iff]; simp; omega)
/-- What Compare answers of two numbers. -/
def cmpI (x y : Nat) : Int := if x = y then 0 else if x < y then -1 else 1
theorem ret_i64 {a b : Int} (h : a = b) : Ending.returned (.int .i64 a) = .returned (.int .i64 b) := by rw [h]
theorem cmp_any (x y : Nat) (w : World) :
    Calls Tryd.prog 37 #[.int .i64 (x : Int), .int .i64 (y : Int)] w fun e w' => e = .returned (.int .i64 (cmpI x y)) ∧ w = w' := by
  go_enter Tryd.func37, Tryd.ntmps37
  go_wp2
  all_goals go_ret
  all_goals refine ⟨ret_i64 ?_, rfl⟩
  all_goals (unfold cmpI; (repeat' split) <;> omega)
end Go.Proofs.YtkihhhcjmlcmpaaDoor
