/-
  Package bits' small functions and Has, and the document's own Has: what each call returns.
-/
import Derived.Test.YtobjkknemnekjaaRows
import Derived.Test.YtobjkknemnekjaaL
import Derived.Test.YtobjkknemnekjaaA
import Derived.WalkKit
import Derived.WalkSpells
import Derived.BigQuiet
import Derived.Deep.QuietTactic
import Derived.Lib.Hide
namespace Go.Proofs.Ytobjkknemnekjaa
open Go.RowKit

theorem ret_bool {a b : Bool} (h : a = b) : Ending.returned (.bool a) = .returned (.bool b) := by rw [h]

theorem ret_u8 {a b : Int} (h : a = b) : Ending.returned (.int .u8 a) = .returned (.int .u8 b) := by rw [h]
theorem ret_ii {a b c d : Int} (h1 : a = c) (h2 : b = d) : Ending.returned (.tuple #[.int .i64 a, .int .i64 b]) = .returned (.tuple #[.int .i64 c, .int .i64 d]) := by rw [h1, h2]

/-- A call that leaves all as it was, in a region of which the order is drawn. -/
theorem quiet_eq {f : FuncId} {args : Array Value} {w : World} {n : Nat} {v : Value} (h : Calls Try.prog f args (w.drewN n) fun e w' => e = .returned v ∧ w.drewN n = w') :
    Calls Try.prog f args (w.drewN n) fun e w'' => e = .returned v ∧ ∃ m, w'' = w.drewN m := h.mono fun _ _ ⟨he, hm⟩ => ⟨he, n, hm.symm⟩
theorem size_any (A : Option Addr) (n c : Nat) (w : World) (hm : n ≤ 100000000) :
    Calls Try.prog 23 #[.slice A n c] w fun e w' => e = .returned (.int .i64 (8 * (n : Int))) ∧ w = w' := by
  go_enter Try.func23, Try.ntmps23
  go_wp2
  go_ret
  exact ⟨rfl, rfl⟩

theorem exists_any (A : Option Addr) (n c : Nat) (x : Int) (w : World) (hm : n ≤ 100000000) :
    Calls Try.prog 22 #[.slice A n c, .int .i64 x] w fun e w' => e = .returned (.bool (decide (0 ≤ x ∧ x < 8 * (n : Int)))) ∧ w = w' := by
  by_cases h0 : 0 ≤ x
  · have e : decide (0 ≤ x ∧ x < 8 * (n : Int)) = decide (x < 8 * (n : Int)) := by simp [h0]
    rw [e]
    clear e
    go_enter Try.func22, Try.ntmps22
    go_wp2_with (go_at_call 23; refine (size_any _ _ _ _ hm).mono ?_; rintro e w' ⟨rfl, rfl⟩)
    go_ret
    exact ⟨rfl, rfl⟩
  · have e : decide (0 ≤ x ∧ x < 8 * (n : Int)) = false := by simp; omega
    rw [e]
    clear e
    go_enter Try.func22, Try.ntmps22
    go_wp2_with (go_at_call 23; refine (size_any _ _ _ _ hm).mono ?_; rintro e w' ⟨rfl, rfl⟩)
    go_ret
    exact ⟨rfl, rfl⟩

theorem mask_any (i : Nat) (w : World) (hm : i ≤ 800000000) :
    Calls Try.prog 25 #[.int .i64 (i : Int)] w fun e w' => e = .returned (.int .u8 ((2 ^ (i % 8) : Nat) : Int)) ∧ w = w' := by
  have e : (2 : Int) ^ (i % 8) % 256 = ((2 ^ (i % 8) : Nat) : Int) := by
    have h := pow_lt8 (i % 8) (by omega)
    rw [Int.emod_eq_of_lt (Int.pow_nonneg (by omega)) (by have : ((2 ^ (i % 8) : Nat) : Int) < 256 := by omega
                                                          simpa using this)]
    simp
  have E := Lib.hid e
  clear e
  go_enter Try.func25, Try.ntmps25
  go_wp2
  go_ret
  exact ⟨ret_u8 E.out, rfl⟩

theorem clip_any (A : Option Addr) (n c : Nat) (a b : Int) (F T : Nat) (w : World) (hm : n ≤ 100000000) (h : Ends a b n F T) :
    Calls Try.prog 26 #[.slice A n c, .int .i64 a, .int .i64 b] w fun e w' => e = .returned (.tuple #[.int .i64 (F : Int), .int .i64 (T : Int)]) ∧ w = w' := by
  have h1 := h.lo
  have h2 := h.hi
  go_enter Try.func26, Try.ntmps26
  go_wp2_with (go_at_call 23; refine (size_any _ _ _ _ hm).mono ?_; rintro e w' ⟨rfl, rfl⟩)
  all_goals
    go_ret2
    exact ⟨ret_ii (by omega) (by omega), rfl⟩

/-- What lies in a slice of bytes, by the bit. -/
theorem rd_byte {w : World} {B : Nat} {A : Option Addr} {l : List UInt8} {n i : Nat} (hn : l.length = n) (hr : Rd w B A (bytesV l)) (hi : i < 8 * n) :
    ∃ b o, A = some ⟨b, o, none⟩ ∧ b < B ∧ w.cell? ⟨b, o + i / 8, none⟩ = some (.int .u8 ((l.getD (i / 8) 0).toNat : Int)) := by
  have hl : i / 8 < l.length := by omega
  rcases hr with h | ⟨b, o, rfl, hb, hc⟩
  · exfalso; simp [bytesV] at h; subst h; simp at hl
  · exact ⟨b, o, rfl, hb, hc (i / 8) _ (by simp [bytesV, byteV, List.getD_eq_getElem?_getD, hl])⟩
theorem and_bit (x k : Nat) (hx : x < 256) (hk : k < 8) : ((bits .and .u8 (x : Int) ((2 ^ k : Nat) : Int)) != 0) = x.testBit k := by
  rw [u8_and_nat x (2 ^ k) hx (pow_lt8 k hk)]
  cases h : x.testBit k with
  | false =>
    have e : x &&& 2 ^ k = 0 := by
      apply Nat.eq_of_testBit_eq
      intro j
      rw [Nat.testBit_and, Nat.testBit_two_pow, Nat.zero_testBit]
      by_cases hj : k = j
      · subst hj; simp [h]
      · simp [hj]
    rw [e]; rfl
  | true =>
    have e : x &&& 2 ^ k ≠ 0 := by
      intro e
      have h2 : (x &&& 2 ^ k).testBit k = true := by rw [Nat.testBit_and, h, Nat.testBit_two_pow]; simp
      rw [e, Nat.zero_testBit] at h2
      cases h2
    simp; omega

theorem exists_yes (A : Option Addr) (n c : Nat) (x : Int) (w : World) (hm : n ≤ 100000000) (h : decide (0 ≤ x ∧ x < 8 * (n : Int)) = true) :
    Calls Try.prog 22 #[.slice A n c, .int .i64 x] w fun e w' => e = .returned (.bool true) ∧ w' = w :=
  (exists_any A n c x w hm).mono fun e w' ⟨h1, h2⟩ => ⟨by rw [h1, h], h2.symm⟩
theorem exists_no (A : Option Addr) (n c : Nat) (x : Int) (w : World) (hm : n ≤ 100000000) (h : decide (0 ≤ x ∧ x < 8 * (n : Int)) = false) :
    Calls Try.prog 22 #[.slice A n c, .int .i64 x] w fun e w' => e = .returned (.bool false) ∧ w' = w :=
  (exists_any A n c x w hm).mono fun e w' ⟨h1, h2⟩ => ⟨by rw [h1, h], h2.symm⟩
theorem has_out (A : Option Addr) (n c : Nat) (x : Int) (w : World) (hm : n ≤ 100000000) (h : ¬ (0 ≤ x ∧ x < 8 * (n : Int))) :
    Calls Try.prog 13 #[.slice A n c, .int .i64 x] w fun e w' => e = .returned (.bool false) ∧ ∃ m, w' = w.drewN m := by
  have H := Lib.hid (decide_eq_false h)
  clear h
  go_enter Try.func13, Try.ntmps13
  go_wp2_with fail
  go_quiet (first
    | (go_at_call 22; exact Calls.quiet_of_same (exists_no _ _ _ _ _ hm H.out)))
  go_wp2_with fail
  go_ret
  exact ⟨rfl, nq, rfl⟩
theorem has_in (l : List UInt8) (A : Option Addr) (n c B i : Nat) (w : World) (hn : l.length = n) (hr : Rd w B A (bytesV l)) (hm : n ≤ 100000000) (h : i < 8 * n) :
    Calls Try.prog 13 #[.slice A n c, .int .i64 (i : Int)] w fun e w' => e = .returned (.bool (hb l i)) ∧ ∃ m, w' = w.drewN m := by
  obtain ⟨b, o, rfl, _, hcell⟩ := rd_byte hn hr h
  have H := Lib.hid (decide_eq_true (show 0 ≤ (i : Int) ∧ (i : Int) < 8 * (n : Int) by omega))
  have hlt := (l.getD (i / 8) 0).toNat_lt
  have HB := Lib.hid (and_bit (l.getD (i / 8) 0).toNat (i % 8) hlt (by omega))
  have e1 : hb l i = (l.getD (i / 8) 0).toNat.testBit (i % 8) := rfl
  rw [← e1] at HB
  have h8 : i / 8 < n := by omega
  obtain ⟨q, hq⟩ : ∃ q, q = i / 8 := ⟨_, rfl⟩
  have hqi : (i : Int) / 8 = (q : Int) := by omega
  rw [← hq] at hcell h8 hlt HB
  have hw8 : IntKind.i64.wrap (q : Int) = (q : Int) := by rw [IntKind.wrap_i64]; omega
  have hi0 : (0 : Int) ≤ (q : Int) := Int.natCast_nonneg _
  have hi1 : (q : Int) < (n : Int) := by omega
  clear hr hn e1 hq
  generalize (l.getD q 0).toNat = y at *
  go_enter Try.func13, Try.ntmps13
  go_wp2_with fail
  go_quiet (first
    | (go_at_call 22; exact Calls.quiet_of_same (exists_yes _ _ _ _ _ hm H.out))
    | (go_at_call 25; exact quiet_eq (mask_any _ _ (by omega))))
  go_wp2_with fail
  go_ret
  exact ⟨ret_bool HB.out, nq, rfl⟩
theorem has_any (l : List UInt8) (A : Option Addr) (n c B : Nat) (x : Int) (w : World) (hn : l.length = n) (hr : Rd w B A (bytesV l)) (hm : n ≤ 100000000) :
    Calls Try.prog 13 #[.slice A n c, .int .i64 x] w fun e w' => e = .returned (.bool (hbI l x)) ∧ ∃ m, w' = w.drewN m := by
  by_cases h : 0 ≤ x ∧ x < 8 * (n : Int)
  · obtain ⟨i, rfl⟩ := Int.eq_ofNat_of_zero_le h.1
    rw [hbI_nat]
    exact has_in l A n c B i w hn hr hm (by omega)
  · rw [hbI_out l x (by rw [hn]; exact h)]
    exact has_out A n c x w hm h

theorem rhas_out (A : Option Addr) (n c : Nat) (x : Int) (w : World) (hm : n ≤ 100000000) (h : ¬ (0 ≤ x ∧ x < 8 * (n : Int))) :
    Calls Try.prog 14 #[.slice A n c, .int .i64 x] w fun e w' => e = .returned (.bool false) ∧ w = w' := by
  by_cases h0 : x < 0
  · clear h
    go_enter Try.func14, Try.ntmps14
    go_wp2
    go_ret
    exact ⟨rfl, rfl⟩
  · have h1 : 8 * (n : Int) ≤ x := by omega
    clear h
    go_enter Try.func14, Try.ntmps14
    go_wp2
    go_ret
    exact ⟨rfl, rfl⟩
theorem bit_of (y k : Nat) : ((y / 2 ^ k : Nat) : Int) % 2 = 1 ↔ y.testBit k = true := by
  rw [Nat.testBit_eq_decide_div_mod_eq, decide_eq_true_iff]
  generalize y / 2 ^ k = z
  omega
theorem rhas_in (l : List UInt8) (A : Option Addr) (n c B i : Nat) (w : World) (hn : l.length = n) (hr : Rd w B A (bytesV l)) (hm : n ≤ 100000000) (h : i < 8 * n) :
    Calls Try.prog 14 #[.slice A n c, .int .i64 (i : Int)] w fun e w' => e = .returned (.bool (hb l i)) ∧ w = w' := by
  obtain ⟨b, o, rfl, _, hcell⟩ := rd_byte hn hr h
  have hlt := (l.getD (i / 8) 0).toNat_lt
  have HB := Lib.hid (bit_of (l.getD (i / 8) 0).toNat (i % 8))
  have e1 : hb l i = (l.getD (i / 8) 0).toNat.testBit (i % 8) := rfl
  rw [← e1] at HB
  have h8 : i / 8 < n := by omega
  obtain ⟨q, hq⟩ : ∃ q, q = i / 8 := ⟨_, rfl⟩
  have hqi : (i : Int) / 8 = (q : Int) := by omega
  obtain ⟨r, hrr⟩ : ∃ r, r = i % 8 := ⟨_, rfl⟩
  have hri : (i : Int) % 8 = (r : Int) := by omega
  have hr8 : r < 8 := by omega
  rw [← hq] at hcell h8 hlt HB
  rw [← hrr] at HB
  clear hr hn e1 hq hrr
  generalize (l.getD q 0).toNat = y at *
  generalize hb l i = t at *
  go_enter Try.func14, Try.ntmps14
  go_wp2
  go_loop [5, 6] (fun z k => ∃ j : Nat, j ≤ r ∧ k = .int .i64 (j : Int) ∧ ∃ m : Nat, z = .int .u8 (m : Int) ∧ m < 256 ∧ Hid (m = y / 2 ^ j)) (fun _ k => r - (intOf k).toNat)
  case atStart => exact ⟨0, Nat.zero_le _, rfl, y, rfl, hlt, Lib.hid (by simp)⟩
  case round =>
    obtain ⟨j, hj, rfl, m, rfl, hm2, Hm⟩ := hrel
    by_cases hjr : j < r
    · go_wp2
      go_round
      case rel => exact ⟨j + 1, by omega, by go_num, m / 2, by go_num, by omega, Lib.hid (by rw [Hm.out, Nat.div_div_eq_div_mul, Nat.pow_succ])⟩
      case measure => simp [intOf]; omega
    · obtain rfl : j = r := by omega
      go_wp2
      go_ret
      have e := HB.out
      rw [← Hm.out] at e
      exact ⟨ret_bool (by rw [Bool.eq_iff_iff, ← e]; simp), rfl⟩
theorem rhas_any (l : List UInt8) (A : Option Addr) (n c B : Nat) (x : Int) (w : World) (hn : l.length = n) (hr : Rd w B A (bytesV l)) (hm : n ≤ 100000000) :
    Calls Try.prog 14 #[.slice A n c, .int .i64 x] w fun e w' => e = .returned (.bool (hbI l x)) ∧ w = w' := by
  by_cases h : 0 ≤ x ∧ x < 8 * (n : Int)
  · obtain ⟨i, rfl⟩ := Int.eq_ofNat_of_zero_le h.1
    rw [hbI_nat]
    exact rhas_in l A n c B i w hn hr hm (by omega)
  · rw [hbI_out l x (by rw [hn]; exact h)]
    exact rhas_out A n c x w hm h
end Go.Proofs.Ytobjkknemnekjaa
