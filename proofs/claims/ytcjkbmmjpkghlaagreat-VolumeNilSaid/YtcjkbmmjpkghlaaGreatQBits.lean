/-
  Bits that stand in bytes, on paper: which are 1, bytes with another bit, how many there are between two numbers, the first one, and the list of them. No program occurs here.
-/
import Derived.Test.YtcjkbmmjpkghlaaGreatQF
import Derived.Test.YtcjkbmmjpkghlaaGreatRows
import Derived.WalkKit
import Derived.WalkSpells
import Derived.BigQuiet
import Derived.Deep.QuietTactic
import Derived.Lib.Hide
import Derived.Lib.AppendZeros
import Derived.Deep.DeepAppendRoom
namespace Go.Proofs.YtcjkbmmjpkghlaaGreat.Bits
open Go.RowKit

/-- Is bit i 1? -/
def hb (l : List UInt8) (i : Nat) : Bool := (l.getD (i / 8) 0).toNat.testBit (i % 8)
/-- The same, of any number. -/
def hbI (l : List UInt8) (x : Int) : Bool := decide (0 ≤ x) && hb l x.toNat
theorem hbI_nat (l : List UInt8) (i : Nat) : hbI l (i : Int) = hb l i := by simp [hbI]
theorem hb_out (l : List UInt8) (i : Nat) (h : 8 * l.length ≤ i) : hb l i = false := by
  unfold hb
  rw [List.getD_eq_getElem?_getD, List.getElem?_eq_none (by omega)]
  simp
theorem hbI_neg (l : List UInt8) (x : Int) (h : x < 0) : hbI l x = false := by simp [hbI]; omega
theorem hbI_out (l : List UInt8) (x : Int) (h : ¬ (0 ≤ x ∧ x < 8 * (l.length : Int))) : hbI l x = false := by
  by_cases h0 : x < 0
  · exact hbI_neg l x h0
  · obtain ⟨k, rfl⟩ := Int.eq_ofNat_of_zero_le (show 0 ≤ x by omega)
    rw [hbI_nat, hb_out l k (by omega)]

/-- A byte with another bit. -/
def setb (b : UInt8) (k : Nat) (on : Bool) : UInt8 := if on then UInt8.ofNat (b.toNat ||| 2 ^ k) else UInt8.ofNat (b.toNat &&& (255 - 2 ^ k))
theorem pow_lt8 (k : Nat) (h : k < 8) : 2 ^ k < 256 := by
  have : 2 ^ k < 2 ^ 8 := Nat.pow_lt_pow_right (by omega) h
  simpa using this
theorem setb_true (b : UInt8) (k : Nat) (h : k < 8) : (setb b k true).toNat = b.toNat ||| 2 ^ k := by
  have h1 : b.toNat ||| 2 ^ k < 2 ^ 8 := Nat.or_lt_two_pow b.toNat_lt (Nat.pow_lt_pow_right (by omega) h)
  simp only [setb, if_true, UInt8.toNat_ofNat']
  exact Nat.mod_eq_of_lt h1
theorem setb_false (b : UInt8) (k : Nat) : (setb b k false).toNat = b.toNat &&& (255 - 2 ^ k) := by
  have h1 : b.toNat &&& (255 - 2 ^ k) < 2 ^ 8 := Nat.lt_of_le_of_lt Nat.and_le_left b.toNat_lt
  simp only [setb, Bool.false_eq_true, if_false, UInt8.toNat_ofNat']
  exact Nat.mod_eq_of_lt h1
theorem setb_bit (b : UInt8) (k m : Nat) (on : Bool) (hk : k < 8) (hm : m < 8) : (setb b k on).toNat.testBit m = if m = k then on else b.toNat.testBit m := by
  cases on with
  | true =>
    rw [setb_true b k hk, Nat.testBit_or, Nat.testBit_two_pow]
    by_cases h : m = k
    · simp [h]
    · simp [h, show ¬ k = m by omega]
  | false =>
    have e : 255 - 2 ^ k = 2 ^ 8 - (2 ^ k + 1) := by omega
    rw [setb_false b k, Nat.testBit_and, e, Nat.testBit_two_pow_sub_succ (pow_lt8 k hk), Nat.testBit_two_pow]
    by_cases h : m = k
    · simp [h]
    · simp [h, show ¬ k = m by omega, hm]
theorem byte_bit (b : UInt8) (j : Nat) (h : 8 ≤ j) : b.toNat.testBit j = false :=
  Nat.testBit_lt_two_pow (Nat.lt_of_lt_of_le b.toNat_lt (Nat.pow_le_pow_right (by omega) h))
theorem byte_ext (a b : UInt8) (h : ∀ j, j < 8 → a.toNat.testBit j = b.toNat.testBit j) : a = b := by
  apply UInt8.toNat_inj.1
  apply Nat.eq_of_testBit_eq
  intro j
  by_cases hj : j < 8
  · exact h j hj
  · rw [byte_bit a j (by omega), byte_bit b j (by omega)]

/-- Bytes with another bit. -/
def wb (l : List UInt8) (i : Nat) (on : Bool) : List UInt8 := l.set (i / 8) (setb (l.getD (i / 8) 0) (i % 8) on)
theorem length_wb (l : List UInt8) (i : Nat) (on : Bool) : (wb l i on).length = l.length := by simp [wb]
theorem hb_wb (l : List UInt8) (i j : Nat) (on : Bool) (h : i < 8 * l.length) : hb (wb l i on) j = if j = i then on else hb l j := by
  unfold hb wb
  rw [List.getD_eq_getElem?_getD, List.getElem?_set]
  by_cases e : i / 8 = j / 8
  · rw [if_pos e, if_pos (by omega)]
    simp only [Option.getD_some]
    rw [setb_bit _ _ _ _ (by omega) (by omega)]
    by_cases e2 : j = i
    · simp [e2]
    · rw [if_neg (by omega), if_neg e2, e]
  · rw [if_neg e, if_neg (by rintro rfl; exact e rfl), ← List.getD_eq_getElem?_getD]
theorem bits_ext (l m : List UInt8) (hlen : l.length = m.length) (h : ∀ i, i < 8 * l.length → hb l i = hb m i) : l = m := by
  apply List.ext_getElem hlen
  intro k h1 h2
  apply byte_ext
  intro j hj
  have := h (8 * k + j) (by omega)
  unfold hb at this
  rw [show (8 * k + j) / 8 = k by omega, show (8 * k + j) % 8 = j by omega] at this
  simpa [List.getD_eq_getElem?_getD, h1, h2] using this
theorem wb_wb (l : List UInt8) (i : Nat) (on : Bool) (h : i < 8 * l.length) : wb (wb l i on) i on = wb l i on := by
  apply bits_ext
  · simp [length_wb]
  · intro j _
    rw [hb_wb _ _ _ _ (by rw [length_wb]; exact h), hb_wb _ _ _ _ h]
    by_cases e : j = i <;> simp [e]
theorem wb_back (l : List UInt8) (i : Nat) (on : Bool) (h : i < 8 * l.length) : wb (wb l i on) i (hb l i) = l := by
  apply bits_ext
  · simp [length_wb]
  · intro j _
    rw [hb_wb _ _ _ _ (by rw [length_wb]; exact h), hb_wb _ _ _ _ h]
    by_cases e : j = i <;> simp [e]

/-- A byte that is made bit by bit: the first ones of those bits. -/
def Mk (f : Nat → Bool) (m x : Nat) : Prop := x < 2 ^ m ∧ ∀ j, j < m → x.testBit j = f j
theorem Mk.start (f : Nat → Bool) : Mk f 0 0 := ⟨by simp, fun j hj => absurd hj (Nat.not_lt_zero _)⟩
theorem Mk.skip {f : Nat → Bool} {m x : Nat} (h : Mk f m x) (hf : f m = false) : Mk f (m + 1) x := by
  refine ⟨Nat.lt_of_lt_of_le h.1 (Nat.pow_le_pow_right (by omega) (by omega)), fun j hj => ?_⟩
  by_cases e : j = m
  · subst e; rw [hf]; exact Nat.testBit_lt_two_pow h.1
  · exact h.2 j (by omega)
theorem Mk.add {f : Nat → Bool} {m x : Nat} (h : Mk f m x) (hf : f m = true) : Mk f (m + 1) (x + 2 ^ m) := by
  have h1 := h.1
  refine ⟨by rw [Nat.pow_succ]; omega, fun j hj => ?_⟩
  rw [Nat.add_comm]
  by_cases e : j = m
  · subst e; rw [Nat.testBit_two_pow_add_eq, Nat.testBit_lt_two_pow h1, hf]; rfl
  · rw [Nat.testBit_two_pow_add_gt (by omega)]; exact h.2 j (by omega)
theorem Mk.lt {f : Nat → Bool} {m x : Nat} (h : Mk f m x) (hm : m ≤ 8) : x < 256 := by
  have : 2 ^ m ≤ 2 ^ 8 := Nat.pow_le_pow_right (by omega) hm
  have := h.1
  omega
theorem Mk.done {f : Nat → Bool} {x : Nat} (h : Mk f 8 x) (b : UInt8) (hb : ∀ j, j < 8 → b.toNat.testBit j = f j) : b.toNat = x := by
  apply Nat.eq_of_testBit_eq
  intro j
  by_cases hj : j < 8
  · rw [hb j hj, h.2 j hj]
  · rw [byte_bit b j (by omega), Nat.testBit_lt_two_pow (Nat.lt_of_lt_of_le h.1 (Nat.pow_le_pow_right (by omega) (by omega)))]
theorem wb_byte (l : List UInt8) (i k j : Nat) (on : Bool) (hi : i < 8 * l.length) (hk : k < (wb l i on).length) (hj : j < 8) : (wb l i on)[k].toNat.testBit j = (if 8 * k + j = i then on else hb l (8 * k + j)) := by
  rw [← hb_wb l i (8 * k + j) on hi]
  unfold hb
  rw [show (8 * k + j) / 8 = k by omega, show (8 * k + j) % 8 = j by omega, List.getD_eq_getElem?_getD, List.getElem?_eq_getElem hk]
  rfl

/-- Is that bit between the two numbers, and as it is asked for? -/
def cnd (l : List UInt8) (a b : Int) (on : Bool) (i : Nat) : Bool := decide (a ≤ (i : Int)) && decide ((i : Int) < b) && (hb l i == on)
/-- How many of the first ones. -/
def cnt (l : List UInt8) (a b : Int) (j : Nat) : Nat := (List.range j).countP (cnd l a b true)
/-- The first of the first ones. -/
def fst (l : List UInt8) (a b : Int) (on : Bool) (j : Nat) : Option Nat := (List.range j).find? (cnd l a b on)
/-- Those of the first ones that are 1. -/
def onesTo (l : List UInt8) (j : Nat) : List Nat := (List.range j).filter (hb l)
def ones (l : List UInt8) : List Nat := onesTo l (8 * l.length)

theorem cnt_yes {l : List UInt8} {a b : Int} {j : Nat} (h : cnd l a b true j = true) : cnt l a b (j + 1) = cnt l a b j + 1 := by simp [cnt, List.range_succ, h]
theorem cnt_no {l : List UInt8} {a b : Int} {j : Nat} (h : cnd l a b true j = false) : cnt l a b (j + 1) = cnt l a b j := by simp [cnt, List.range_succ, h]
theorem cnt_le (l : List UInt8) (a b : Int) (j : Nat) : cnt l a b j ≤ j := by
  have := List.countP_le_length (p := cnd l a b true) (l := List.range j)
  simpa [cnt] using this
theorem cnt_same {l : List UInt8} {a b : Int} {j k : Nat} (hjk : j ≤ k) (h : ∀ i, j ≤ i → i < k → cnd l a b true i = false) : cnt l a b k = cnt l a b j := by
  obtain ⟨d, rfl⟩ : ∃ d, k = j + d := ⟨k - j, by omega⟩
  clear hjk
  induction d with
  | zero => rfl
  | succ d ih => rw [show j + (d + 1) = j + d + 1 by omega, cnt_no (h _ (by omega) (by omega)), ih fun i h1 h2 => h i h1 (by omega)]
theorem cnt_zero {l : List UInt8} {a b : Int} {k : Nat} (h : ∀ i, i < k → cnd l a b true i = false) : cnt l a b k = 0 := by
  rw [cnt_same (Nat.zero_le k) fun i _ h2 => h i h2]; rfl
theorem fst_no {l : List UInt8} {a b : Int} {on : Bool} {j : Nat} (h : ∀ i, i < j → cnd l a b on i = false) : fst l a b on j = none := by
  simp only [fst, List.find?_eq_none, List.mem_range]
  intro i hi
  simp [h i hi]
theorem fst_yes {l : List UInt8} {a b : Int} {on : Bool} {j k : Nat} (hk : k < j) (h : ∀ i, i < k → cnd l a b on i = false) (hc : cnd l a b on k = true) : fst l a b on j = some k := by
  simp only [fst]
  rw [List.find?_range_eq_some]
  refine ⟨hc, by simpa using hk, fun i hi => ?_⟩
  simp [h i hi]
theorem onesTo_yes {l : List UInt8} {j : Nat} (h : hb l j = true) : onesTo l (j + 1) = onesTo l j ++ [j] := by simp [onesTo, List.range_succ, h]
theorem onesTo_no {l : List UInt8} {j : Nat} (h : hb l j = false) : onesTo l (j + 1) = onesTo l j := by simp [onesTo, List.range_succ, h]
theorem onesTo_len (l : List UInt8) (j : Nat) : (onesTo l j).length ≤ j := by
  have := List.length_filter_le (hb l) (List.range j)
  simpa [onesTo] using this

/-- Two numbers for the ends, as they are cut to the bits that there are. -/
structure Ends (a b : Int) (n F T : Nat) : Prop where
  lo : max a 0 = (F : Int)
  hi : max (min b (8 * (n : Int))) 0 = (T : Int)
theorem ends_exist (a b : Int) (n : Nat) : ∃ F T, Ends a b n F T := ⟨(max a 0).toNat, (max (min b (8 * (n : Int))) 0).toNat, by omega, by omega⟩
section
variable {l : List UInt8} {a b : Int} {n F T : Nat} {on : Bool} (h : Ends a b n F T)
include h
theorem Ends.below {i : Nat} (hi : i < F) : cnd l a b on i = false := by
  have := h.lo
  have e : decide (a ≤ (i : Int)) = false := decide_eq_false (by omega)
  simp [cnd, e]
theorem Ends.above {i : Nat} (hi : T ≤ i) (hn : i < 8 * n) : cnd l a b on i = false := by
  have := h.hi
  have e : decide ((i : Int) < b) = false := decide_eq_false (by omega)
  simp [cnd, e]
theorem Ends.mid {i : Nat} (h1 : F ≤ i) (h2 : i < T) : cnd l a b on i = (hb l i == on) := by
  have := h.lo
  have := h.hi
  have e1 : decide (a ≤ (i : Int)) = true := decide_eq_true (by omega)
  have e2 : decide ((i : Int) < b) = true := decide_eq_true (by omega)
  simp [cnd, e1, e2]
theorem Ends.top : T ≤ 8 * n := by have := h.hi; omega
theorem Ends.cnt_start : cnt l a b F = 0 := cnt_zero fun _ hi => h.below hi
theorem Ends.cnt_none (hn : l.length = n) (hF : T ≤ F) : cnt l a b (8 * l.length) = 0 := cnt_zero fun i hi => by
  by_cases h1 : i < F
  · exact h.below h1
  · exact h.above (by omega) (by omega)
theorem Ends.cnt_done (hn : l.length = n) : cnt l a b (8 * l.length) = cnt l a b T :=
  cnt_same (by have := h.top; omega) fun i h1 h2 => h.above h1 (by omega)
theorem Ends.fst_none (hn : l.length = n) (hm : ∀ i, F ≤ i → i < T → (hb l i == on) = false) : fst l a b on (8 * l.length) = none := fst_no fun i hi => by
  by_cases h1 : i < F
  · exact h.below h1
  · by_cases h2 : i < T
    · rw [h.mid (by omega) h2]; exact hm i (by omega) h2
    · exact h.above (by omega) (by omega)
theorem Ends.fst_some (hn : l.length = n) {k : Nat} (h1 : F ≤ k) (h2 : k < T) (hm : ∀ i, F ≤ i → i < k → (hb l i == on) = false) (hk : (hb l k == on) = true) : fst l a b on (8 * l.length) = some k :=
  fst_yes (by have := h.top; omega) (fun i hi => by
    by_cases h3 : i < F
    · exact h.below h3
    · rw [h.mid (by omega) (by omega)]; exact hm i (by omega) hi) (by rw [h.mid h1 h2]; exact hk)
end
end Go.Proofs.YtcjkbmmjpkghlaaGreat.Bits

/-
  Package bits' small functions and Has, and the document's own Has: what each call returns.
-/
namespace Go.Proofs.YtcjkbmmjpkghlaaGreat.Bits
open Go.RowKit

theorem ret_bool {a b : Bool} (h : a = b) : Ending.returned (.bool a) = .returned (.bool b) := by rw [h]

theorem ret_u8 {a b : Int} (h : a = b) : Ending.returned (.int .u8 a) = .returned (.int .u8 b) := by rw [h]
theorem ret_ii {a b c d : Int} (h1 : a = c) (h2 : b = d) : Ending.returned (.tuple #[.int .i64 a, .int .i64 b]) = .returned (.tuple #[.int .i64 c, .int .i64 d]) := by rw [h1, h2]

/-- A call that leaves all as it was, in a region of which the order is drawn. -/
theorem quiet_eq {f : FuncId} {args : Array Value} {w : World} {n : Nat} {v : Value} (h : Calls Tryz.prog f args (w.drewN n) fun e w' => e = .returned v ∧ w.drewN n = w') :
    Calls Tryz.prog f args (w.drewN n) fun e w'' => e = .returned v ∧ ∃ m, w'' = w.drewN m := h.mono fun _ _ ⟨he, hm⟩ => ⟨he, n, hm.symm⟩
theorem size_any (A : Option Addr) (n c : Nat) (w : World) (hm : n ≤ 100000000) :
    Calls Tryz.prog 186 #[.slice A n c] w fun e w' => e = .returned (.int .i64 (8 * (n : Int))) ∧ w = w' := by
  go_enter Tryz.func186, Tryz.ntmps186
  go_wp2
  go_ret
  exact ⟨rfl, rfl⟩

theorem exists_any (A : Option Addr) (n c : Nat) (x : Int) (w : World) (hm : n ≤ 100000000) :
    Calls Tryz.prog 146 #[.slice A n c, .int .i64 x] w fun e w' => e = .returned (.bool (decide (0 ≤ x ∧ x < 8 * (n : Int)))) ∧ w = w' := by
  by_cases h0 : 0 ≤ x
  · have e : decide (0 ≤ x ∧ x < 8 * (n : Int)) = decide (x < 8 * (n : Int)) := by simp [h0]
    rw [e]
    clear e
    go_enter Tryz.func146, Tryz.ntmps146
    go_wp2_with (go_at_call 186; refine (size_any _ _ _ _ hm).mono ?_; rintro e w' ⟨rfl, rfl⟩)
    go_ret
    exact ⟨rfl, rfl⟩
  · have e : decide (0 ≤ x ∧ x < 8 * (n : Int)) = false := by simp; omega
    rw [e]
    clear e
    go_enter Tryz.func146, Tryz.ntmps146
    go_wp2_with (go_at_call 186; refine (size_any _ _ _ _ hm).mono ?_; rintro e w' ⟨rfl, rfl⟩)
    go_ret
    exact ⟨rfl, rfl⟩

theorem mask_any (i : Nat) (w : World) (hm : i ≤ 800000000) :
    Calls Tryz.prog 147 #[.int .i64 (i : Int)] w fun e w' => e = .returned (.int .u8 ((2 ^ (i % 8) : Nat) : Int)) ∧ w = w' := by
  have e : (2 : Int) ^ (i % 8) % 256 = ((2 ^ (i % 8) : Nat) : Int) := by
    have h := pow_lt8 (i % 8) (by omega)
    rw [Int.emod_eq_of_lt (Int.pow_nonneg (by omega)) (by have : ((2 ^ (i % 8) : Nat) : Int) < 256 := by omega
                                                          simpa using this)]
    simp
  have E := Lib.hid e
  clear e
  go_enter Tryz.func147, Tryz.ntmps147
  go_wp2
  go_ret
  exact ⟨ret_u8 E.out, rfl⟩

theorem clip_any (A : Option Addr) (n c : Nat) (a b : Int) (F T : Nat) (w : World) (hm : n ≤ 100000000) (h : Ends a b n F T) :
    Calls Tryz.prog 185 #[.slice A n c, .int .i64 a, .int .i64 b] w fun e w' => e = .returned (.tuple #[.int .i64 (F : Int), .int .i64 (T : Int)]) ∧ w = w' := by
  have h1 := h.lo
  have h2 := h.hi
  go_enter Tryz.func185, Tryz.ntmps185
  go_wp2_with (go_at_call 186; refine (size_any _ _ _ _ hm).mono ?_; rintro e w' ⟨rfl, rfl⟩)
  all_goals
    go_ret2
    exact ⟨ret_ii (by omega) (by omega), rfl⟩

/-- What lies in a slice of bytes, by the bit. -/
theorem rd_byte {w : World} {B : Nat} {A : Option Addr} {l : List UInt8} {n i : Nat} (hn : l.length = n) (hr : Rd w B A (bytesV l)) (hi : i < 8 * n) :
    ∃ b o, A = some ⟨b, o, none⟩ ∧ b < B ∧ w.cell? ⟨b, o + i / 8, none⟩ = some (.int .u8 ((l.getD (i / 8) 0).toNat : Int)) := by
  have hl : i / 8 < l.length := by omega
  rcases hr with h | ⟨b, o, rfl, hb, hc⟩
  · exfalso; simp [bytesV] at h; subst h; simp at hl
  · exact ⟨b, o, rfl, hb, hc (i / 8) _ (by simp [bytesV, byteV, List.getD_eq_getElem?_getD, hl])⟩
theorem and_bit (x k : Nat) (hx : x < 256) (hk : k < 8) : ((bits .and .u8 (x : Int) ((2 ^ k : Nat) : Int)) != 0) = x.testBit k := by
  rw [u8_and_nat x (2 ^ k) hx (pow_lt8 k hk)]
  cases h : x.testBit k with
  | false =>
    have e : x &&& 2 ^ k = 0 := by
      apply Nat.eq_of_testBit_eq
      intro j
      rw [Nat.testBit_and, Nat.testBit_two_pow, Nat.zero_testBit]
      by_cases hj : k = j
      · subst hj; simp [h]
      · simp [hj]
    rw [e]; rfl
  | true =>
    have e : x &&& 2 ^ k ≠ 0 := by
      intro e
      have h2 : (x &&& 2 ^ k).testBit k = true := by rw [Nat.testBit_and, h, Nat.testBit_two_pow]; simp
      rw [e, Nat.zero_testBit] at h2
      cases h2
    simp; omega

theorem exists_yes (A : Option Addr) (n c : Nat) (x : Int) (w : World) (hm : n ≤ 100000000) (h : decide (0 ≤ x ∧ x < 8 * (n : Int)) = true) :
    Calls Tryz.prog 146 #[.slice A n c, .int .i64 x] w fun e w' => e = .returned (.bool true) ∧ w' = w :=
  (exists_any A n c x w hm).mono fun e w' ⟨h1, h2⟩ => ⟨by rw [h1, h], h2.symm⟩
theorem exists_no (A : Option Addr) (n c : Nat) (x : Int) (w : World) (hm : n ≤ 100000000) (h : decide (0 ≤ x ∧ x < 8 * (n : Int)) = false) :
    Calls Tryz.prog 146 #[.slice A n c, .int .i64 x] w fun e w' => e = .returned (.bool false) ∧ w' = w :=
  (exists_any A n c x w hm).mono fun e w' ⟨h1, h2⟩ => ⟨by rw [h1, h], h2.symm⟩
theorem has_out (A : Option Addr) (n c : Nat) (x : Int) (w : World) (hm : n ≤ 100000000) (h : ¬ (0 ≤ x ∧ x < 8 * (n : Int))) :
    Calls Tryz.prog 88 #[.slice A n c, .int .i64 x] w fun e w' => e = .returned (.bool false) ∧ ∃ m, w' = w.drewN m := by
  have H := Lib.hid (decide_eq_false h)
  clear h
  go_enter Tryz.func88, Tryz.ntmps88
  go_wp2_with fail
  go_quiet (first
    | (go_at_call 146; exact Calls.quiet_of_same (exists_no _ _ _ _ _ hm H.out)))
  go_wp2_with fail
  go_ret
  exact ⟨rfl, nq, rfl⟩
theorem has_in (l : List UInt8) (A : Option Addr) (n c B i : Nat) (w : World) (hn : l.length = n) (hr : Rd w B A (bytesV l)) (hm : n ≤ 100000000) (h : i < 8 * n) :
    Calls Tryz.prog 88 #[.slice A n c, .int .i64 (i : Int)] w fun e w' => e = .returned (.bool (hb l i)) ∧ ∃ m, w' = w.drewN m := by
  obtain ⟨b, o, rfl, _, hcell⟩ := rd_byte hn hr h
  have H := Lib.hid (decide_eq_true (show 0 ≤ (i : Int) ∧ (i : Int) < 8 * (n : Int) by omega))
  have hlt := (l.getD (i / 8) 0).toNat_lt
  have HB := Lib.hid (and_bit (l.getD (i / 8) 0).toNat (i % 8) hlt (by omega))
  have e1 : hb l i = (l.getD (i / 8) 0).toNat.testBit (i % 8) := rfl
  rw [← e1] at HB
  have h8 : i / 8 < n := by omega
  obtain ⟨q, hq⟩ : ∃ q, q = i / 8 := ⟨_, rfl⟩
  have hqi : (i : Int) / 8 = (q : Int) := by omega
  rw [← hq] at hcell h8 hlt HB
  have hw8 : IntKind.i64.wrap (q : Int) = (q : Int) := by rw [IntKind.wrap_i64]; omega
  have hi0 : (0 : Int) ≤ (q : Int) := Int.natCast_nonneg _
  have hi1 : (q : Int) < (n : Int) := by omega
  clear hr hn e1 hq
  generalize (l.getD q 0).toNat = y at *
  go_enter Tryz.func88, Tryz.ntmps88
  go_wp2_with fail
  go_quiet (first
    | (go_at_call 146; exact Calls.quiet_of_same (exists_yes _ _ _ _ _ hm H.out))
    | (go_at_call 147; exact quiet_eq (mask_any _ _ (by omega))))
  go_wp2_with fail
  go_ret
  exact ⟨ret_bool HB.out, nq, rfl⟩
theorem has_any (l : List UInt8) (A : Option Addr) (n c B : Nat) (x : Int) (w : World) (hn : l.length = n) (hr : Rd w B A (bytesV l)) (hm : n ≤ 100000000) :
    Calls Tryz.prog 88 #[.slice A n c, .int .i64 x] w fun e w' => e = .returned (.bool (hbI l x)) ∧ ∃ m, w' = w.drewN m := by
  by_cases h : 0 ≤ x ∧ x < 8 * (n : Int)
  · obtain ⟨i, rfl⟩ := Int.eq_ofNat_of_zero_le h.1
    rw [hbI_nat]
    exact has_in l A n c B i w hn hr hm (by omega)
  · rw [hbI_out l x (by rw [hn]; exact h)]
    exact has_out A n c x w hm h

theorem rhas_out (A : Option Addr) (n c : Nat) (x : Int) (w : World) (hm : n ≤ 100000000) (h : ¬ (0 ≤ x ∧ x < 8 * (n : Int))) :
    Calls Tryz.prog 130 #[.slice A n c, .int .i64 x] w fun e w' => e = .returned (.bool false) ∧ w = w' := by
  by_cases h0 : x < 0
  · clear h
    go_enter Tryz.func130, Tryz.ntmps130
    go_wp2
    go_ret
    exact ⟨rfl, rfl⟩
  · have h1 : 8 * (n : Int) ≤ x := by omega
    clear h
    go_enter Tryz.func130, Tryz.ntmps130
    go_wp2
    go_ret
    exact ⟨rfl, rfl⟩
theorem bit_of (y k : Nat) : ((y / 2 ^ k : Nat) : Int) % 2 = 1 ↔ y.testBit k = true := by
  rw [Nat.testBit_eq_decide_div_mod_eq, decide_eq_true_iff]
  generalize y / 2 ^ k = z
  omega
theorem rhas_in (l : List UInt8) (A : Option Addr) (n c B i : Nat) (w : World) (hn : l.length = n) (hr : Rd w B A (bytesV l)) (hm : n ≤ 100000000) (h : i < 8 * n) :
    Calls Tryz.prog 130 #[.slice A n c, .int .i64 (i : Int)] w fun e w' => e = .returned (.bool (hb l i)) ∧ w = w' := by
  obtain ⟨b, o, rfl, _, hcell⟩ := rd_byte hn hr h
  have hlt := (l.getD (i / 8) 0).toNat_lt
  have HB := Lib.hid (bit_of (l.getD (i / 8) 0).toNat (i % 8))
  have e1 : hb l i = (l.getD (i / 8) 0).toNat.testBit (i % 8) := rfl
  rw [← e1] at HB
  have h8 : i / 8 < n := by omega
  obtain ⟨q, hq⟩ : ∃ q, q = i / 8 := ⟨_, rfl⟩
  have hqi : (i : Int) / 8 = (q : Int) := by omega
  obtain ⟨r, hrr⟩ : ∃ r, r = i % 8 := ⟨_, rfl⟩
  have hri : (i : Int) % 8 = (r : Int) := by omega
  have hr8 : r < 8 := by omega
  rw [← hq] at hcell h8 hlt HB
  rw [← hrr] at HB
  clear hr hn e1 hq hrr
  generalize (l.getD q 0).toNat = y at *
  generalize hb l i = t at *
  go_enter Tryz.func130, Tryz.ntmps130
  go_wp2
  go_loop [5, 6] (fun z k => ∃ j : Nat, j ≤ r ∧ k = .int .i64 (j : Int) ∧ ∃ m : Nat, z = .int .u8 (m : Int) ∧ m < 256 ∧ Hid (m = y / 2 ^ j)) (fun _ k => r - (intOf k).toNat)
  case atStart => exact ⟨0, Nat.zero_le _, rfl, y, rfl, hlt, Lib.hid (by simp)⟩
  case round =>
    obtain ⟨j, hj, rfl, m, rfl, hm2, Hm⟩ := hrel
    by_cases hjr : j < r
    · go_wp2
      go_round
      case rel => exact ⟨j + 1, by omega, by go_num, m / 2, by go_num, by omega, Lib.hid (by rw [Hm.out, Nat.div_div_eq_div_mul, Nat.pow_succ])⟩
      case measure => simp [intOf]; omega
    · obtain rfl : j = r := by omega
      go_wp2
      go_ret
      have e := HB.out
      rw [← Hm.out] at e
      exact ⟨ret_bool (by rw [Bool.eq_iff_iff, ← e]; simp), rfl⟩
theorem rhas_any (l : List UInt8) (A : Option Addr) (n c B : Nat) (x : Int) (w : World) (hn : l.length = n) (hr : Rd w B A (bytesV l)) (hm : n ≤ 100000000) :
    Calls Tryz.prog 130 #[.slice A n c, .int .i64 x] w fun e w' => e = .returned (.bool (hbI l x)) ∧ w = w' := by
  by_cases h : 0 ≤ x ∧ x < 8 * (n : Int)
  · obtain ⟨i, rfl⟩ := Int.eq_ofNat_of_zero_le h.1
    rw [hbI_nat]
    exact rhas_in l A n c B i w hn hr hm (by omega)
  · rw [hbI_out l x (by rw [hn]; exact h)]
    exact rhas_out A n c x w hm h
end Go.Proofs.YtcjkbmmjpkghlaaGreat.Bits

/-
  Package bits' Count and First, and the document's own: what each call returns.
-/
namespace Go.Proofs.YtcjkbmmjpkghlaaGreat.Bits
open Go.RowKit

theorem ret_int {a b : Int} (h : a = b) : Ending.returned (.int .i64 a) = .returned (.int .i64 b) := by rw [h]
/-- What First hands back. -/
def fstV (o : Option Nat) : Value := .tuple #[.int .i64 ((o.getD 0 : Nat) : Int), .bool o.isSome]
theorem drew2 {w w' : World} {a : Nat} (h : ∃ m, w' = (w.drewN a).drewN m) : ∃ m, w' = w.drewN m := by
  obtain ⟨m, rfl⟩ := h
  exact ⟨a + m, by rw [World.drewN_drewN]⟩
theorem drew_nil (w : World) : ∃ m, w = w.drewN m := ⟨0, rfl⟩

theorem count_none (A : Option Addr) (n c F T : Nat) (x y : Int) (w : World) (hm : n ≤ 100000000) (hE : Ends x y n F T) (hF : T ≤ F) (hF2 : F ≤ 9223372036854775807) :
    Calls Tryz.prog 148 #[.slice A n c, .int .i64 x, .int .i64 y] w fun e w' => e = .returned (.int .i64 0) ∧ w = w' := by
  have htop := hE.top
  have HE := Lib.hid hE
  clear hE
  go_enter Tryz.func148, Tryz.ntmps148
  go_wp2_with (go_at_call 185; refine (clip_any _ _ _ _ _ F T _ hm HE.out).mono ?_; rintro e w' ⟨rfl, rfl⟩)
  go_loop [7, 19] (fun v k => v = .int .i64 0 ∧ k = .int .i64 0) (fun _ _ => 0)
  case atStart => exact ⟨rfl, rfl⟩
  case round =>
    obtain ⟨rfl, rfl⟩ := hrel
    go_wp2
    go_ret
    exact ⟨rfl, rfl⟩
set_option maxHeartbeats 800000 in
theorem count_some (l : List UInt8) (A : Option Addr) (n c B F T : Nat) (x y : Int) (w : World) (hn : l.length = n) (hr : Rd w B A (bytesV l)) (hm : n ≤ 100000000) (hE : Ends x y n F T) (hF : F < T) :
    Calls Tryz.prog 148 #[.slice A n c, .int .i64 x, .int .i64 y] w fun e w' => e = .returned (.int .i64 (cnt l x y T : Nat)) ∧ ∃ m, w' = w.drewN m := by
  have htop := hE.top
  have Hn := Lib.hid hn
  have Hr := Lib.hid hr
  have HS := Lib.hid (hE.cnt_start (l := l))
  have HM := Lib.hid (fun i => hE.mid (l := l) (i := i) (on := true))
  have HE := Lib.hid hE
  clear hn hr hE
  go_enter Tryz.func148, Tryz.ntmps148
  go_wp2_with (go_at_call 185; refine (clip_any _ _ _ _ _ F T _ hm HE.out).mono ?_; rintro e w' ⟨rfl, rfl⟩)
  go_loopw [7, 19] (fun v k wr => ∃ j : Nat, F + j ≤ T ∧ k = .int .i64 (j : Int) ∧ ∃ q : Nat, v = .int .i64 (q : Int) ∧ Hid (q = cnt l x y (F + j)) ∧ ∃ m, wr = w.drewN m) (fun _ k _ => T - F - (intOf k).toNat)
  case atStart => exact ⟨0, by omega, rfl, 0, rfl, Lib.hid HS.out.symm, drew_nil w⟩
  case round =>
    obtain ⟨j, hj, rfl, q, rfl, Hq, m, rfl⟩ := hrel
    have hq := cnt_le l x y (F + j)
    rw [← Hq.out] at hq
    by_cases hlt : F + j < T
    · have hc := HM.out (F + j) (by omega) hlt
      have hX : hbI l ((F : Int) + (j : Int)) = hb l (F + j) := by
        rw [← hbI_nat]; congr 1
      cases hb' : hb l (F + j) with
      | false =>
        rw [hb'] at hX hc
        have Hno := Lib.hid (cnt_no hc)
        have HX := Lib.hid hX
        clear hc hX hb'
        go_wp2_with (go_at_call 88; refine (has_any l A n c _ _ _ Hn.out (Hr.out.drewN m) hm).mono ?_; rintro e w' ⟨rfl, m2, rfl⟩; rw [HX.out, World.drewN_drewN])
        go_roundw
        case rel => exact ⟨j + 1, by omega, by go_num, q, rfl, Lib.hid (by rw [← Nat.add_assoc, Hno.out, Hq.out]), _, rfl⟩
        case measure => simp [intOf]; omega
      | true =>
        rw [hb'] at hX hc
        have Hyes := Lib.hid (cnt_yes hc)
        have HX := Lib.hid hX
        clear hc hX hb'
        go_wp2_with (go_at_call 88; refine (has_any l A n c _ _ _ Hn.out (Hr.out.drewN m) hm).mono ?_; rintro e w' ⟨rfl, m2, rfl⟩; rw [HX.out, World.drewN_drewN])
        go_roundw
        case rel => exact ⟨j + 1, by omega, by go_num, q + 1, by go_num, Lib.hid (by rw [← Nat.add_assoc, Hyes.out, Hq.out]), _, rfl⟩
        case measure => simp [intOf]; omega
    · obtain rfl : T = F + j := by omega
      go_wp2
      go_ret
      exact ⟨ret_int (by rw [Hq.out]), m, rfl⟩
theorem count_any (l : List UInt8) (A : Option Addr) (n c : Nat) (B : Nat) (x y : Int) (w : World) (hn : l.length = n) (hr : Rd w B A (bytesV l)) (hm : n ≤ 100000000) (hx : x ≤ 9223372036854775807) :
    Calls Tryz.prog 148 #[.slice A n c, .int .i64 x, .int .i64 y] w fun e w' => e = .returned (.int .i64 (cnt l x y (8 * l.length) : Nat)) ∧ ∃ m, w' = w.drewN m := by
  obtain ⟨F, T, hE⟩ := ends_exist x y n
  by_cases h : T ≤ F
  · rw [hE.cnt_none hn h]
    exact (count_none A n c F T x y w hm hE h (by have := hE.lo; omega)).mono fun e w' ⟨h1, h2⟩ => ⟨h1, h2 ▸ drew_nil w⟩
  · rw [hE.cnt_done hn]
    exact count_some l A n c B F T x y w hn hr hm hE (by omega)

theorem cnd_lo {l : List UInt8} {x y : Int} {on : Bool} {j : Nat} (h : ¬ (x ≤ (j : Int))) : cnd l x y on j = false := by simp [cnd, decide_eq_false h]
theorem cnd_hi {l : List UInt8} {x y : Int} {on : Bool} {j : Nat} (h : ¬ ((j : Int) < y)) : cnd l x y on j = false := by simp [cnd, decide_eq_false h]
theorem cnd_in {l : List UInt8} {x y : Int} {on : Bool} {j : Nat} (h1 : x ≤ (j : Int)) (h2 : (j : Int) < y) : cnd l x y on j = (hb l j == on) := by simp [cnd, decide_eq_true h1, decide_eq_true h2]

set_option maxHeartbeats 800000 in
theorem rcount_any (l : List UInt8) (A : Option Addr) (n c : Nat) (B : Nat) (x y : Int) (w : World) (hn : l.length = n) (hr : Rd w B A (bytesV l)) (hm : n ≤ 100000000) :
    Calls Tryz.prog 133 #[.slice A n c, .int .i64 x, .int .i64 y] w fun e w' => e = .returned (.int .i64 (cnt l x y (8 * l.length) : Nat)) ∧ w = w' := by
  have Hn := Lib.hid hn
  have Hr := Lib.hid hr
  clear hn hr
  go_enter Tryz.func133, Tryz.ntmps133
  go_wp2
  go_loop [7, 8] (fun v k => ∃ j : Nat, j ≤ 8 * n ∧ k = .int .i64 (j : Int) ∧ ∃ q : Nat, v = .int .i64 (q : Int) ∧ Hid (q = cnt l x y j)) (fun _ k => 8 * n - (intOf k).toNat)
  case atStart => exact ⟨0, by omega, rfl, 0, rfl, Lib.hid rfl⟩
  case round =>
    obtain ⟨j, hj, rfl, q, rfl, Hq⟩ := hrel
    have hq := cnt_le l x y j
    rw [← Hq.out] at hq
    by_cases hlt : j < 8 * n
    · by_cases h1 : x ≤ (j : Int)
      · by_cases h2 : (j : Int) < y
        · have hc := cnd_in (l := l) (on := true) h1 h2
          have hX : hbI l (j : Int) = hb l j := hbI_nat l j
          cases hb' : hb l j with
          | false =>
            rw [hb'] at hX hc
            have Hno := Lib.hid (cnt_no hc)
            have HX := Lib.hid hX
            clear hc hX hb'
            go_wp2_with (go_at_call 130; refine (rhas_any l A n c _ _ _ Hn.out Hr.out hm).mono ?_; rintro e w' ⟨rfl, rfl⟩; rw [HX.out])
            go_round
            case rel => exact ⟨j + 1, by omega, by go_num, q, rfl, Lib.hid (by rw [Hno.out, Hq.out])⟩
            case measure => simp [intOf]; omega
          | true =>
            rw [hb'] at hX hc
            have Hyes := Lib.hid (cnt_yes hc)
            have HX := Lib.hid hX
            clear hc hX hb'
            go_wp2_with (go_at_call 130; refine (rhas_any l A n c _ _ _ Hn.out Hr.out hm).mono ?_; rintro e w' ⟨rfl, rfl⟩; rw [HX.out])
            go_round
            case rel => exact ⟨j + 1, by omega, by go_num, q + 1, by go_num, Lib.hid (by rw [Hyes.out, Hq.out])⟩
            case measure => simp [intOf]; omega
        · have Hno := Lib.hid (cnt_no (cnd_hi (l := l) (x := x) (on := true) h2))
          go_wp2
          go_round
          case rel => exact ⟨j + 1, by omega, by go_num, q, rfl, Lib.hid (by rw [Hno.out, Hq.out])⟩
          case measure => simp [intOf]; omega
      · have Hno := Lib.hid (cnt_no (cnd_lo (l := l) (y := y) (on := true) h1))
        go_wp2
        go_round
        case rel => exact ⟨j + 1, by omega, by go_num, q, rfl, Lib.hid (by rw [Hno.out, Hq.out])⟩
        case measure => simp [intOf]; omega
    · obtain rfl : j = 8 * n := by omega
      go_wp2
      go_ret
      exact ⟨ret_int (by rw [Hq.out, Hn.out]), rfl⟩

theorem first_none (A : Option Addr) (n c F T : Nat) (x y : Int) (on : Bool) (w : World) (hm : n ≤ 100000000) (hE : Ends x y n F T) (hF : T ≤ F) (hF2 : F ≤ 9223372036854775807) :
    Calls Tryz.prog 142 #[.slice A n c, .int .i64 x, .int .i64 y, .bool on] w fun e w' => e = .returned (fstV none) ∧ w = w' := by
  have htop := hE.top
  have HE := Lib.hid hE
  clear hE
  go_enter Tryz.func142, Tryz.ntmps142
  go_wp2_with (go_at_call 185; refine (clip_any _ _ _ _ _ F T _ hm HE.out).mono ?_; rintro e w' ⟨rfl, rfl⟩)
  go_loop [21] (fun k => k = .int .i64 0) (fun _ => 0)
  case atStart => rfl
  case round =>
    obtain rfl := hrel
    go_wp2
    go_ret2
    exact ⟨rfl, rfl⟩
set_option maxHeartbeats 800000 in
theorem first_some (l : List UInt8) (A : Option Addr) (n c B F T : Nat) (x y : Int) (on : Bool) (w : World) (hn : l.length = n) (hr : Rd w B A (bytesV l)) (hm : n ≤ 100000000) (hE : Ends x y n F T) (hF : F < T) :
    Calls Tryz.prog 142 #[.slice A n c, .int .i64 x, .int .i64 y, .bool on] w fun e w' => e = .returned (fstV (fst l x y on (8 * l.length))) ∧ ∃ m, w' = w.drewN m := by
  have htop := hE.top
  have Hn := Lib.hid hn
  have Hr := Lib.hid hr
  have HS := Lib.hid (fun k (h1 : F ≤ k) (h2 : k < T) (h3 : ∀ i, F ≤ i → i < k → (hb l i == on) = false) (h4 : (hb l k == on) = true) => hE.fst_some (l := l) (on := on) hn h1 h2 h3 h4)
  have HZ := Lib.hid (fun (h3 : ∀ i, F ≤ i → i < T → (hb l i == on) = false) => hE.fst_none (l := l) (on := on) hn h3)
  have HE := Lib.hid hE
  clear hn hr hE
  go_enter Tryz.func142, Tryz.ntmps142
  go_wp2_with (go_at_call 185; refine (clip_any _ _ _ _ _ F T _ hm HE.out).mono ?_; rintro e w' ⟨rfl, rfl⟩)
  go_loopw [21] (fun k wr => ∃ j : Nat, F + j ≤ T ∧ k = .int .i64 (j : Int) ∧ Hid (∀ i, F ≤ i → i < F + j → (hb l i == on) = false) ∧ ∃ m, wr = w.drewN m) (fun k _ => T - F - (intOf k).toNat)
  case atStart => exact ⟨0, by omega, rfl, Lib.hid (fun i h1 h2 => by omega), drew_nil w⟩
  case round =>
    obtain ⟨j, hj, rfl, Hq, m, rfl⟩ := hrel
    by_cases hlt : F + j < T
    · have hX : hbI l ((F : Int) + (j : Int)) = hb l (F + j) := by
        rw [← hbI_nat]; congr 1
      cases hb' : (hb l (F + j) == on) with
      | false =>
        have Hnext : Hid (∀ i, F ≤ i → i < F + (j + 1) → (hb l i == on) = false) := Lib.hid fun i h1 h2 => by
          by_cases h3 : i = F + j
          · rw [h3]; exact hb'
          · exact Hq.out i h1 (by omega)
        rw [← hX] at hb'
        clear hX
        go_wp2_with (go_at_call 88; refine (has_any l A n c _ _ _ Hn.out (Hr.out.drewN m) hm).mono ?_; rintro e w' ⟨rfl, m2, rfl⟩; rw [World.drewN_drewN])
        go_roundw
        case rel => exact ⟨j + 1, by omega, by go_num, Hnext, _, rfl⟩
        case measure => simp [intOf]; omega
      | true =>
        have HR := Lib.hid (HS.out (F + j) (by omega) hlt Hq.out hb')
        rw [← hX] at hb'
        clear hX
        go_wp2_with (go_at_call 88; refine (has_any l A n c _ _ _ Hn.out (Hr.out.drewN m) hm).mono ?_; rintro e w' ⟨rfl, m2, rfl⟩; rw [World.drewN_drewN])
        go_ret2
        exact ⟨by rw [HR.out]; simp [fstV], _, rfl⟩
    · obtain rfl : T = F + j := by omega
      have HR := Lib.hid (HZ.out Hq.out)
      go_wp2
      go_ret2
      exact ⟨by rw [HR.out]; rfl, m, rfl⟩
theorem first_any (l : List UInt8) (A : Option Addr) (n c : Nat) (B : Nat) (x y : Int) (on : Bool) (w : World) (hn : l.length = n) (hr : Rd w B A (bytesV l)) (hm : n ≤ 100000000) (hx : x ≤ 9223372036854775807) :
    Calls Tryz.prog 142 #[.slice A n c, .int .i64 x, .int .i64 y, .bool on] w fun e w' => e = .returned (fstV (fst l x y on (8 * l.length))) ∧ ∃ m, w' = w.drewN m := by
  obtain ⟨F, T, hE⟩ := ends_exist x y n
  by_cases h : T ≤ F
  · rw [hE.fst_none hn (fun i h1 h2 => by omega)]
    exact (first_none A n c F T x y on w hm hE h (by have := hE.lo; omega)).mono fun e w' ⟨h1, h2⟩ => ⟨h1, h2 ▸ drew_nil w⟩
  · exact first_some l A n c B F T x y on w hn hr hm hE (by omega)

end Go.Proofs.YtcjkbmmjpkghlaaGreat.Bits

/-
  Package bits' With and the document's own With: what each call returns, and what it leaves.
-/
namespace Go.Proofs.YtcjkbmmjpkghlaaGreat.Bits
open Go.RowKit

theorem info5 : (Tryz.prog.info? 5).map (fun i => (i.zero, i.size, i.bytes)) = some (some (.int .u8 0), 1, 1) := by kernel_rfl
/-- A new row of bytes is handed back, and nothing that was there is changed. -/
def Made (w : World) (l : List UInt8) (v : Value) (w' : World) : Prop := w'.ownsRow w.heap.size 5 1 v l.length (bytesV l) ∧ Below w.heap.size w w'

/-- append onto an own row of bytes. -/
theorem wpList_app5 (w : World) {ops : Array Oper} {rest : List Oper} {o : Oper} {a : Act} {Q : Exit → Act → World → Prop} (hgd : o.guard = none) (s x : Operand)
    (ho : o.op = .call { callee := .builtin .append, args := #[s, x], argTypes := #[37, 37] })
    (base : Nat) (v : Value) (n : Nat) (l : List UInt8) (hs : a.eval s = v) (hown : w.ownsRow base 5 1 v n (bytesV l))
    (B : Nat) (A : Option Addr) (m c : Nat) (k : List UInt8) (hx : a.eval x = .slice A m c) (hm : k.length = m) (hr : Rd w B A (bytesV k))
    (hbytes : n + m ≤ 140737488355328) (hbase : base ≤ w.heap.size)
    (h : ∀ v' w', w'.ownsRow base 5 1 v' (n + m) (bytesV (l ++ k)) → w.grownBy w' v.ownBlock → wpList Tryz.prog ops Q rest (a.put o.dst v') w') : wpList Tryz.prog ops Q (o :: rest) a w := by
  obtain ⟨i0, hi, hz0, hz1, hz2⟩ := info_parts info5
  rw [bytesV_append] at h
  exact wpList_app w hgd s x 37 ho base 5 i0 _ 1 Tryz.underlying37 hi hz0 hz1 hz2 rfl v n _ hs hown B A m c _ hx (by rw [length_bytesV, hm]) hr (bytesV_one _) (by simp only [maxLen]; omega) (by omega) hbase h

theorem clone_some (l : List UInt8) (ad : Addr) (n c : Nat) (w : World) (hn : l.length = n) (hr : Rd w w.heap.size (some ad) (bytesV l)) (hm : n ≤ 140737488355328) :
    Calls Tryz.prog 187 #[.slice (some ad) n c] w fun e w' => ∃ v, e = .returned v ∧ w'.ownsRow w.heap.size 5 1 v n (bytesV l) ∧ Below w.heap.size w w' := by
  have Hn := Lib.hid hn
  clear hn
  have hne := fun (u : World) => Lib.run_eql_slice_nil (P := Tryz.prog) u 37 5 ad n c 0 0 Tryz.underlying37
  have hlit : (w.alloc (.cells #[] 5)).ownsRow w.heap.size 5 1 (.slice (some ⟨w.heap.size, 0, none⟩) 0 0) 0 (bytesV []) := World.ownsRow_lit w #[] 0 (Nat.le_refl _) (Nat.zero_le _) rfl
  have hr1 := hr.below ((Below.refl _ w).alloc (Nat.le_refl _) (.cells #[] 5))
  go_enter Tryz.func187, Tryz.ntmps187
  go_wp2_with (at_builtin; refine wpList_app5 _ rfl (.tmp 5) (.tmp 6) rfl w.heap.size _ 0 [] rfl hlit w.heap.size (some ad) n c l rfl Hn.out hr1 (by omega) (by simp) ?_; intro v w1 hown hgrow)
  go_ret
  rw [Nat.zero_add, List.nil_append] at hown
  exact ⟨_, rfl, hown, ((Below.refl _ w).alloc (Nat.le_refl _) _).grown hgrow (by simp) (fun k hk => (hlit.lt k hk).1)⟩

theorem with_arg (A : Option Addr) (n c : Nat) (x : Int) (on : Bool) (w : World) (hm : n ≤ 100000000) (h : ¬ (0 ≤ x ∧ x < 8 * (n : Int))) :
    Calls Tryz.prog 144 #[.slice A n c, .int .i64 x, .bool on] w fun e w' => e = .returned (.tuple #[.slice none 0 0, .int .i64 1]) ∧ w = w' := by
  have H := Lib.hid (decide_eq_false h)
  clear h
  go_enter Tryz.func144, Tryz.ntmps144
  go_wp2_with (go_at_call 146; refine (exists_any _ _ _ _ _ hm).mono ?_; rintro e w' ⟨rfl, rfl⟩; rw [H.out])
  go_ret2
  exact ⟨rfl, rfl⟩
theorem with_long (A : Option Addr) (n c i : Nat) (on : Bool) (w : World) (hm : n ≤ 100000000) (h : i < 8 * n) (hl : 512 < n) :
    Calls Tryz.prog 144 #[.slice A n c, .int .i64 (i : Int), .bool on] w fun e w' => e = .returned (.tuple #[.slice none 0 0, .int .i64 4]) ∧ w = w' := by
  have H := Lib.hid (decide_eq_true (show 0 ≤ (i : Int) ∧ (i : Int) < 8 * (n : Int) by omega))
  go_enter Tryz.func144, Tryz.ntmps144
  go_wp2_with (first
    | (go_at_call 146; refine (exists_any _ _ _ _ _ hm).mono ?_; rintro e w' ⟨rfl, rfl⟩; rw [H.out])
    | (go_at_call 186; refine (size_any _ _ _ _ hm).mono ?_; rintro e w' ⟨rfl, rfl⟩))
  go_ret2
  exact ⟨rfl, rfl⟩
theorem with_made {w w1 : World} {l : List UInt8} {g n c1 i q : Nat} (hn : l.length = n) (hq : q = i / 8) (hown : w1.ownsRow w.heap.size 5 1 (.slice (some ⟨g, 0, none⟩) n c1) n (bytesV l)) (hb1 : Below w.heap.size w w1) (on : Bool) :
    Made w (wb l i on) (.slice (some ⟨g, 0, none⟩) n c1) (w1.setCell ⟨g, q, none⟩ (.int .u8 ((setb (l.getD q 0) (i % 8) on).toNat : Int))).drew := by
  have h1 := (hown.stored q (byteV (setb (l.getD q 0) (i % 8) on))).1
  have e : (bytesV l).set q (byteV (setb (l.getD q 0) (i % 8) on)) = bytesV (wb l i on) := by
    subst hq; simp [bytesV, wb, List.map_set]
  rw [e] at h1
  refine ⟨?_, (hb1.setCell (hown.lt g rfl).1 _).drew⟩
  rw [length_wb, hn]
  exact h1
set_option maxHeartbeats 800000 in
theorem with_on (l : List UInt8) (A : Option Addr) (n c i : Nat) (w : World) (hn : l.length = n) (hr : Rd w w.heap.size A (bytesV l)) (h : i < 8 * n) (hl : n ≤ 512) :
    Calls Tryz.prog 144 #[.slice A n c, .int .i64 (i : Int), .bool true] w fun e w' => ∃ v, e = .returned (.tuple #[v, .int .i64 0]) ∧ Made w (wb l i true) v w' := by
  have H := Lib.hid (decide_eq_true (show 0 ≤ (i : Int) ∧ (i : Int) < 8 * (n : Int) by omega))
  obtain ⟨ad, rfl⟩ : ∃ ad, A = some ad := by
    obtain ⟨b, o, h1, _⟩ := rd_byte hn hr h
    exact ⟨_, h1⟩
  have Hn := Lib.hid hn
  have Hr := Lib.hid hr
  clear hn hr
  go_enter Tryz.func144, Tryz.ntmps144
  go_wp2_with (first
    | (go_at_call 146; refine (exists_any _ _ _ _ _ (by omega)).mono ?_; rintro e w' ⟨rfl, rfl⟩; rw [H.out])
    | (go_at_call 186; refine (size_any _ _ _ _ (by omega)).mono ?_; rintro e w' ⟨rfl, rfl⟩)
    | (go_at_call 187; refine (clone_some l ad n c _ Hn.out Hr.out (by omega)).mono ?_; rintro e w1 ⟨v, rfl, hown, hb1⟩))
  obtain ⟨g, c1, rfl, hc1⟩ := own_pos hown (show 0 < n by omega)
  obtain ⟨q, hq⟩ : ∃ q, q = i / 8 := ⟨_, rfl⟩
  have hqi : (i : Int) / 8 = (q : Int) := by omega
  have hqn : q < n := by omega
  have hcell : w1.cell? ⟨g, q, none⟩ = some (.int .u8 ((l.getD q 0).toNat : Int)) := by
    rw [hown.cellAt q (by omega)]
    have := Hn.out
    simp [bytesV, byteV, List.getD_eq_getElem?_getD, show q < l.length by omega]
  have hfr := hown.frozenAt q
  have hw8 : IntKind.i64.wrap (q : Int) = (q : Int) := by rw [IntKind.wrap_i64]; omega
  have hi0 : (0 : Int) ≤ (q : Int) := Int.natCast_nonneg _
  have hi1 : (q : Int) < (n : Int) := by omega
  have Hown := Lib.hid hown
  have HY := Lib.hid (setb_true (l.getD q 0) (i % 8) (by omega))
  have Hq := Lib.hid hq
  have hlt := (l.getD q 0).toNat_lt
  clear hown hq
  generalize hy : (l.getD q 0).toNat = y at *
  have Hy := Lib.hid hy
  clear hy
  have e : bits .or .u8 (y : Int) (2 ^ (i % 8)) = ((setb (l.getD q 0) (i % 8) true).toNat : Int) := by
    have := u8_or_nat y (2 ^ (i % 8)) (by omega) (pow_lt8 _ (by omega))
    rw [HY.out, ← this]
    simp
  have E := Lib.hid e
  clear e
  go_region_with (go_at_call 147; refine (mask_any _ _ (by omega)).mono ?_; rintro e w' ⟨rfl, rfl⟩)
  all_goals
    have hm := with_made Hn.out Hq.out Hown.out hb1 true
    rw [← E.out] at hm
    generalize bits BinOp.or IntKind.u8 (y : Int) (2 ^ (i % 8)) = u at hm
    go_wp2_with fail
    go_ret2
    exact ⟨_, rfl, hm⟩
set_option maxHeartbeats 800000 in
theorem with_off (l : List UInt8) (A : Option Addr) (n c i : Nat) (w : World) (hn : l.length = n) (hr : Rd w w.heap.size A (bytesV l)) (h : i < 8 * n) (hl : n ≤ 512) :
    Calls Tryz.prog 144 #[.slice A n c, .int .i64 (i : Int), .bool false] w fun e w' => ∃ v, e = .returned (.tuple #[v, .int .i64 0]) ∧ Made w (wb l i false) v w' := by
  have H := Lib.hid (decide_eq_true (show 0 ≤ (i : Int) ∧ (i : Int) < 8 * (n : Int) by omega))
  obtain ⟨ad, rfl⟩ : ∃ ad, A = some ad := by
    obtain ⟨b, o, h1, _⟩ := rd_byte hn hr h
    exact ⟨_, h1⟩
  have Hn := Lib.hid hn
  have Hr := Lib.hid hr
  clear hn hr
  go_enter Tryz.func144, Tryz.ntmps144
  go_wp2_with (first
    | (go_at_call 146; refine (exists_any _ _ _ _ _ (by omega)).mono ?_; rintro e w' ⟨rfl, rfl⟩; rw [H.out])
    | (go_at_call 186; refine (size_any _ _ _ _ (by omega)).mono ?_; rintro e w' ⟨rfl, rfl⟩)
    | (go_at_call 187; refine (clone_some l ad n c _ Hn.out Hr.out (by omega)).mono ?_; rintro e w1 ⟨v, rfl, hown, hb1⟩))
  obtain ⟨g, c1, rfl, hc1⟩ := own_pos hown (show 0 < n by omega)
  obtain ⟨q, hq⟩ : ∃ q, q = i / 8 := ⟨_, rfl⟩
  have hqi : (i : Int) / 8 = (q : Int) := by omega
  have hqn : q < n := by omega
  have hcell : w1.cell? ⟨g, q, none⟩ = some (.int .u8 ((l.getD q 0).toNat : Int)) := by
    rw [hown.cellAt q (by omega)]
    have := Hn.out
    simp [bytesV, byteV, List.getD_eq_getElem?_getD, show q < l.length by omega]
  have hfr := hown.frozenAt q
  have hw8 : IntKind.i64.wrap (q : Int) = (q : Int) := by rw [IntKind.wrap_i64]; omega
  have hi0 : (0 : Int) ≤ (q : Int) := Int.natCast_nonneg _
  have hi1 : (q : Int) < (n : Int) := by omega
  have Hown := Lib.hid hown
  have HY := Lib.hid (setb_false (l.getD q 0) (i % 8))
  have Hq := Lib.hid hq
  have hlt := (l.getD q 0).toNat_lt
  clear hown hq
  generalize hy : (l.getD q 0).toNat = y at *
  have Hy := Lib.hid hy
  clear hy
  have e : bits .andNot .u8 (y : Int) (2 ^ (i % 8)) = ((setb (l.getD q 0) (i % 8) false).toNat : Int) := by
    have := u8_andNot_nat y (2 ^ (i % 8)) (by omega) (pow_lt8 _ (by omega))
    rw [HY.out, ← this]
    simp
  have E := Lib.hid e
  clear e
  go_region_with (go_at_call 147; refine (mask_any _ _ (by omega)).mono ?_; rintro e w' ⟨rfl, rfl⟩)
  all_goals
    have hm := with_made Hn.out Hq.out Hown.out hb1 false
    rw [← E.out] at hm
    generalize bits BinOp.andNot IntKind.u8 (y : Int) (2 ^ (i % 8)) = u at hm
    go_wp2_with fail
    go_ret2
    exact ⟨_, rfl, hm⟩
theorem with_ok (l : List UInt8) (A : Option Addr) (n c i : Nat) (on : Bool) (w : World) (hn : l.length = n) (hr : Rd w w.heap.size A (bytesV l)) (h : i < 8 * n) (hl : n ≤ 512) :
    Calls Tryz.prog 144 #[.slice A n c, .int .i64 (i : Int), .bool on] w fun e w' => ∃ v, e = .returned (.tuple #[v, .int .i64 0]) ∧ Made w (wb l i on) v w' := by
  cases on
  · exact with_off l A n c i w hn hr h hl
  · exact with_on l A n c i w hn hr h hl

theorem rwith_arg (A : Option Addr) (n c : Nat) (x : Int) (on : Bool) (w : World) (hm : n ≤ 100000000) (h : ¬ (0 ≤ x ∧ x < 8 * (n : Int))) :
    Calls Tryz.prog 183 #[.slice A n c, .int .i64 x, .bool on] w fun e w' => e = .returned (.tuple #[.slice none 0 0, .int .i64 1]) ∧ w = w' := by
  by_cases h0 : x < 0
  · clear h
    go_enter Tryz.func183, Tryz.ntmps183
    go_wp2
    go_ret2
    exact ⟨rfl, rfl⟩
  · have h1 : 8 * (n : Int) ≤ x := by omega
    clear h
    go_enter Tryz.func183, Tryz.ntmps183
    go_wp2
    go_ret2
    exact ⟨rfl, rfl⟩
theorem rwith_long (A : Option Addr) (n c i : Nat) (on : Bool) (w : World) (hm : n ≤ 100000000) (h : i < 8 * n) (hl : 512 < n) :
    Calls Tryz.prog 183 #[.slice A n c, .int .i64 (i : Int), .bool on] w fun e w' => e = .returned (.tuple #[.slice none 0 0, .int .i64 4]) ∧ w = w' := by
  go_enter Tryz.func183, Tryz.ntmps183
  go_wp2
  go_ret2
  exact ⟨rfl, rfl⟩

/-- What stands while the bytes are made. -/
def Making (w : World) (l : List UInt8) (k : Nat) (v : Value) (wr : World) : Prop := wr.ownsRow w.heap.size 5 1 v k (bytesV (l.take k)) ∧ Below w.heap.size w wr
theorem Making.start (w : World) (l : List UInt8) : Making w l 0 (.slice none 0 0) w := ⟨World.ownsRow_nil _ _ _ _, Below.refl _ _⟩
theorem Making.step {w wr w1 : World} {l : List UInt8} {k x : Nat} {v v' : Value} (hk : k < l.length) (hx : l[k].toNat = x) (h : Making w l k v wr)
    (hown' : w1.ownsRow w.heap.size 5 1 v' (k + 1) (bytesV (l.take k ++ [UInt8.ofNat x]))) (hg' : (wr.alloc (.cells #[.int .u8 (x : Int)] 5)).grownBy w1 v.ownBlock) : Making w l (k + 1) v' w1 := by
  have hsz := h.2.size
  have e : l.take (k + 1) = l.take k ++ [UInt8.ofNat x] := by rw [List.take_succ_eq_append_getElem hk, ← hx]; simp
  refine ⟨by rw [e]; exact hown', ?_⟩
  exact (h.2.alloc hsz _).grown hg' (by simp; omega) (fun j hj => (h.1.lt j hj).1)
theorem rd_byte1 (w : World) (x : Nat) (hx : x < 256) (t : TypeId) : Rd (w.alloc (.cells #[.int .u8 (x : Int)] t)) (w.heap.size + 1) (some ⟨w.heap.size, 0, none⟩) (bytesV [UInt8.ofNat x]) := by
  refine .inr ⟨w.heap.size, 0, rfl, by omega, fun i u hu => ?_⟩
  rw [World.cell?_alloc_at _ _ _ _ rfl]
  cases i with
  | zero =>
    simp [bytesV, byteV] at hu ⊢
    rw [← hu, show (x : Int) % 256 = (x : Int) by omega]
  | succ i => simp [bytesV] at hu

/-- One of the worth of bits, as it goes round behind the last. -/
def worth (m : Nat) : Nat := 2 ^ m % 256
theorem worth_lt (m : Nat) (h : m < 8) : worth m = 2 ^ m := Nat.mod_eq_of_lt (pow_lt8 m h)
theorem worth_next (m : Nat) (_h : m < 8) : worth m * 2 % 256 = worth (m + 1) := by unfold worth; rw [Nat.pow_succ]; omega

set_option maxHeartbeats 1600000 in
theorem rwith_ok (l : List UInt8) (A : Option Addr) (n c i : Nat) (on : Bool) (w : World) (hn : l.length = n) (hr : Rd w w.heap.size A (bytesV l)) (h : i < 8 * n) (hl : n ≤ 512) :
    Calls Tryz.prog 183 #[.slice A n c, .int .i64 (i : Int), .bool on] w fun e w' => ∃ v, e = .returned (.tuple #[v, .int .i64 0]) ∧ Made w (wb l i on) v w' := by
  obtain ⟨L, hL⟩ : ∃ L, L = wb l i on := ⟨_, rfl⟩
  have hLn : L.length = n := by rw [hL, length_wb, hn]
  have HL : Hid (∀ k j, (hk : k < L.length) → j < 8 → L[k].toNat.testBit j = (if 8 * k + j = i then on else hb l (8 * k + j))) := Lib.hid (by subst hL; intro k j hk hj; exact wb_byte l i k j on (by omega) hk hj)
  rw [← hL]
  have Hn := Lib.hid hn
  have HLn := Lib.hid hLn
  have Hr := Lib.hid hr
  clear hL hLn hn hr
  go_enter Tryz.func183, Tryz.ntmps183
  go_wp2
  go_loopw [8, 9] (fun v i wr => ∃ k : Nat, k ≤ n ∧ i = .int .i64 (k : Int) ∧ Making w L k v wr) (fun _ i _ => n - (intOf i).toNat)
  case atStart => exact ⟨0, Nat.zero_le _, rfl, Making.start w L⟩
  case round =>
    obtain ⟨k, hk, rfl, hM⟩ := hrel
    by_cases hlt : k < n
    · obtain ⟨f, hf⟩ : ∃ f : Nat → Bool, f = fun j => if 8 * k + j = i then on else hb l (8 * k + j) := ⟨_, rfl⟩
      go_wp2
      go_loop [10, 11, 12] (fun x p z => ∃ m : Nat, m ≤ 8 ∧ z = .int .i64 (m : Int) ∧ ∃ u : Nat, x = .int .u8 (u : Int) ∧ p = .int .u8 (worth m : Nat) ∧ Mk f m u) (fun _ _ z => 8 - (intOf z).toNat)
      case atStart => exact ⟨0, by omega, rfl, 0, rfl, rfl, Mk.start f⟩
      case round =>
        obtain ⟨m, hm, rfl, u, rfl, rfl, hK⟩ := hrel
        have hu := hK.lt hm
        have hbel := hM.2
        by_cases hm8 : m < 8
        · have Hw := Lib.hid (worth_next m hm8)
          have hwl : worth m + u < 256 := by
            have h1 := hK.1
            have h2 : 2 ^ (m + 1) ≤ 2 ^ 8 := Nat.pow_le_pow_right (by omega) (by omega)
            rw [Nat.pow_succ] at h2
            rw [worth_lt m hm8]
            omega
          have hwi : 0 ≤ (worth m : Int) := Int.natCast_nonneg _
          have hX : hbI l (8 * (k : Int) + (m : Int)) = hb l (8 * k + m) := by
            have e : 8 * (k : Int) + (m : Int) = ((8 * k + m : Nat) : Int) := by omega
            rw [e, hbI_nat]
          have hfe : f m = if 8 * k + m = i then on else hb l (8 * k + m) := by rw [hf]
          generalize hb l (8 * k + m) = t at hX hfe
          clear hf
          by_cases hki : 8 * k + m = i
          · rw [if_pos hki] at hfe
            have hki' : 8 * (k : Int) + (m : Int) = (i : Int) := by omega
            rw [hki'] at hX
            have HX := Lib.hid hX
            clear hX
            cases on with
            | false =>
              have Hf := Lib.hid hfe
              clear hfe
              go_wp2_with (go_at_call 130; refine (rhas_any l A n c _ _ _ Hn.out (Hr.out.below hbel) (by omega)).mono ?_; rintro e w' ⟨rfl, rfl⟩; rw [HX.out])
              go_round
              case rel => exact ⟨m + 1, by omega, by go_num, u, rfl, by rw [← Hw.out]; go_num, hK.skip Hf.out⟩
              case measure => simp [intOf]; omega
            | true =>
              have Hf := Lib.hid hfe
              clear hfe
              go_wp2_with (go_at_call 130; refine (rhas_any l A n c _ _ _ Hn.out (Hr.out.below hbel) (by omega)).mono ?_; rintro e w' ⟨rfl, rfl⟩; rw [HX.out])
              go_round
              case rel => exact ⟨m + 1, by omega, by go_num, u + worth m, by go_num, by rw [← Hw.out]; go_num, by rw [worth_lt m hm8]; exact hK.add Hf.out⟩
              case measure => simp [intOf]; omega
          · rw [if_neg hki] at hfe
            have hki' : ¬ (8 * (k : Int) + (m : Int) = (i : Int)) := by omega
            have hkb : (8 * (k : Int) + (m : Int) == (i : Int)) = false := by simp [hki']
            have HX := Lib.hid hX
            clear hX
            cases t with
            | false =>
              have Hf := Lib.hid hfe
              clear hfe
              go_wp2_with (go_at_call 130; refine (rhas_any l A n c _ _ _ Hn.out (Hr.out.below hbel) (by omega)).mono ?_; rintro e w' ⟨rfl, rfl⟩; rw [HX.out])
              go_round
              case rel => exact ⟨m + 1, by omega, by go_num, u, rfl, by rw [← Hw.out]; go_num, hK.skip Hf.out⟩
              case measure => simp [intOf]; omega
            | true =>
              have Hf := Lib.hid hfe
              clear hfe
              go_wp2_with (go_at_call 130; refine (rhas_any l A n c _ _ _ Hn.out (Hr.out.below hbel) (by omega)).mono ?_; rintro e w' ⟨rfl, rfl⟩; rw [HX.out])
              go_round
              case rel => exact ⟨m + 1, by omega, by go_num, u + worth m, by go_num, by rw [← Hw.out]; go_num, by rw [worth_lt m hm8]; exact hK.add Hf.out⟩
              case measure => simp [intOf]; omega
        · obtain rfl : m = 8 := by omega
          have hkl : k < L.length := by rw [HLn.out]; exact hlt
          have Hx := Lib.hid (hK.done L[k] fun j hj => by rw [hf]; exact HL.out k j hkl hj)
          clear hf hK
          obtain ⟨hown, hb1⟩ := hM
          have hsz := hb1.size
          go_wp2_with (at_builtin; refine wpList_app5 _ rfl (.tmp 55) (.tmp 57) rfl w.heap.size _ k (L.take k) rfl (hown.alloc _) (wr.heap.size + 1) _ 1 1 [UInt8.ofNat u] rfl rfl (rd_byte1 wr u hu 5) (by omega) (by simp; omega) ?_)
          intro v' w1 hown' hg'
          go_wp2
          go_roundw
          case rel => exact ⟨k + 1, by omega, by go_num, Making.step hkl Hx.out ⟨hown, hb1⟩ hown' hg'⟩
          case measure => simp [intOf]; omega
    · obtain rfl : k = n := by omega
      go_wp2
      go_ret2
      have h1 := hM.1
      rw [List.take_of_length_le (by rw [HLn.out]; omega)] at h1
      exact ⟨_, rfl, by rw [HLn.out]; exact h1, hM.2⟩
end Go.Proofs.YtcjkbmmjpkghlaaGreat.Bits
