/-
  Bits that stand in bytes, on paper: which are 1, bytes with another bit, how many there are between two numbers, the first one, and the list of them. No program occurs here.
-/
import Derived.Test.YtobjkknemnekjaaM
namespace Go.Proofs.Ytobjkknemnekjaa
open Go.RowKit

/-- Is bit i 1? -/
def hb (l : List UInt8) (i : Nat) : Bool := (l.getD (i / 8) 0).toNat.testBit (i % 8)
/-- The same, of any number. -/
def hbI (l : List UInt8) (x : Int) : Bool := decide (0 ≤ x) && hb l x.toNat
theorem hbI_nat (l : List UInt8) (i : Nat) : hbI l (i : Int) = hb l i := by simp [hbI]
theorem hb_out (l : List UInt8) (i : Nat) (h : 8 * l.length ≤ i) : hb l i = false := by
  unfold hb
  rw [List.getD_eq_getElem?_getD, List.getElem?_eq_none (by omega)]
  simp
theorem hbI_neg (l : List UInt8) (x : Int) (h : x < 0) : hbI l x = false := by simp [hbI]; omega
theorem hbI_out (l : List UInt8) (x : Int) (h : ¬ (0 ≤ x ∧ x < 8 * (l.length : Int))) : hbI l x = false := by
  by_cases h0 : x < 0
  · exact hbI_neg l x h0
  · obtain ⟨k, rfl⟩ := Int.eq_ofNat_of_zero_le (show 0 ≤ x by omega)
    rw [hbI_nat, hb_out l k (by omega)]

/-- A byte with another bit. -/
def setb (b : UInt8) (k : Nat) (on : Bool) : UInt8 := if on then UInt8.ofNat (b.toNat ||| 2 ^ k) else UInt8.ofNat (b.toNat &&& (255 - 2 ^ k))
theorem pow_lt8 (k : Nat) (h : k < 8) : 2 ^ k < 256 := by
  have : 2 ^ k < 2 ^ 8 := Nat.pow_lt_pow_right (by omega) h
  simpa using this
theorem setb_true (b : UInt8) (k : Nat) (h : k < 8) : (setb b k true).toNat = b.toNat ||| 2 ^ k := by
  have h1 : b.toNat ||| 2 ^ k < 2 ^ 8 := Nat.or_lt_two_pow b.toNat_lt (Nat.pow_lt_pow_right (by omega) h)
  simp only [setb, if_true, UInt8.toNat_ofNat']
  exact Nat.mod_eq_of_lt h1
theorem setb_false (b : UInt8) (k : Nat) : (setb b k false).toNat = b.toNat &&& (255 - 2 ^ k) := by
  have h1 : b.toNat &&& (255 - 2 ^ k) < 2 ^ 8 := Nat.lt_of_le_of_lt Nat.and_le_left b.toNat_lt
  simp only [setb, Bool.false_eq_true, if_false, UInt8.toNat_ofNat']
  exact Nat.mod_eq_of_lt h1
theorem setb_bit (b : UInt8) (k m : Nat) (on : Bool) (hk : k < 8) (hm : m < 8) : (setb b k on).toNat.testBit m = if m = k then on else b.toNat.testBit m := by
  cases on with
  | true =>
    rw [setb_true b k hk, Nat.testBit_or, Nat.testBit_two_pow]
    by_cases h : m = k
    · simp [h]
    · simp [h, show ¬ k = m by omega]
  | false =>
    have e : 255 - 2 ^ k = 2 ^ 8 - (2 ^ k + 1) := by omega
    rw [setb_false b k, Nat.testBit_and, e, Nat.testBit_two_pow_sub_succ (pow_lt8 k hk), Nat.testBit_two_pow]
    by_cases h : m = k
    · simp [h]
    · simp [h, show ¬ k = m by omega, hm]
theorem byte_bit (b : UInt8) (j : Nat) (h : 8 ≤ j) : b.toNat.testBit j = false :=
  Nat.testBit_lt_two_pow (Nat.lt_of_lt_of_le b.toNat_lt (Nat.pow_le_pow_right (by omega) h))
theorem byte_ext (a b : UInt8) (h : ∀ j, j < 8 → a.toNat.testBit j = b.toNat.testBit j) : a = b := by
  apply UInt8.toNat_inj.1
  apply Nat.eq_of_testBit_eq
  intro j
  by_cases hj : j < 8
  · exact h j hj
  · rw [byte_bit a j (by omega), byte_bit b j (by omega)]

/-- Bytes with another bit. -/
def wb (l : List UInt8) (i : Nat) (on : Bool) : List UInt8 := l.set (i / 8) (setb (l.getD (i / 8) 0) (i % 8) on)
theorem length_wb (l : List UInt8) (i : Nat) (on : Bool) : (wb l i on).length = l.length := by simp [wb]
theorem hb_wb (l : List UInt8) (i j : Nat) (on : Bool) (h : i < 8 * l.length) : hb (wb l i on) j = if j = i then on else hb l j := by
  unfold hb wb
  rw [List.getD_eq_getElem?_getD, List.getElem?_set]
  by_cases e : i / 8 = j / 8
  · rw [if_pos e, if_pos (by omega)]
    simp only [Option.getD_some]
    rw [setb_bit _ _ _ _ (by omega) (by omega)]
    by_cases e2 : j = i
    · simp [e2]
    · rw [if_neg (by omega), if_neg e2, e]
  · rw [if_neg e, if_neg (by rintro rfl; exact e rfl), ← List.getD_eq_getElem?_getD]
theorem bits_ext (l m : List UInt8) (hlen : l.length = m.length) (h : ∀ i, i < 8 * l.length → hb l i = hb m i) : l = m := by
  apply List.ext_getElem hlen
  intro k h1 h2
  apply byte_ext
  intro j hj
  have := h (8 * k + j) (by omega)
  unfold hb at this
  rw [show (8 * k + j) / 8 = k by omega, show (8 * k + j) % 8 = j by omega] at this
  simpa [List.getD_eq_getElem?_getD, h1, h2] using this
theorem wb_wb (l : List UInt8) (i : Nat) (on : Bool) (h : i < 8 * l.length) : wb (wb l i on) i on = wb l i on := by
  apply bits_ext
  · simp [length_wb]
  · intro j _
    rw [hb_wb _ _ _ _ (by rw [length_wb]; exact h), hb_wb _ _ _ _ h]
    by_cases e : j = i <;> simp [e]
theorem wb_back (l : List UInt8) (i : Nat) (on : Bool) (h : i < 8 * l.length) : wb (wb l i on) i (hb l i) = l := by
  apply bits_ext
  · simp [length_wb]
  · intro j _
    rw [hb_wb _ _ _ _ (by rw [length_wb]; exact h), hb_wb _ _ _ _ h]
    by_cases e : j = i <;> simp [e]

/-- A byte that is made bit by bit: the first ones of those bits. -/
def Mk (f : Nat → Bool) (m x : Nat) : Prop := x < 2 ^ m ∧ ∀ j, j < m → x.testBit j = f j
theorem Mk.start (f : Nat → Bool) : Mk f 0 0 := ⟨by simp, fun j hj => absurd hj (Nat.not_lt_zero _)⟩
theorem Mk.skip {f : Nat → Bool} {m x : Nat} (h : Mk f m x) (hf : f m = false) : Mk f (m + 1) x := by
  refine ⟨Nat.lt_of_lt_of_le h.1 (Nat.pow_le_pow_right (by omega) (by omega)), fun j hj => ?_⟩
  by_cases e : j = m
  · subst e; rw [hf]; exact Nat.testBit_lt_two_pow h.1
  · exact h.2 j (by omega)
theorem Mk.add {f : Nat → Bool} {m x : Nat} (h : Mk f m x) (hf : f m = true) : Mk f (m + 1) (x + 2 ^ m) := by
  have h1 := h.1
  refine ⟨by rw [Nat.pow_succ]; omega, fun j hj => ?_⟩
  rw [Nat.add_comm]
  by_cases e : j = m
  · subst e; rw [Nat.testBit_two_pow_add_eq, Nat.testBit_lt_two_pow h1, hf]; rfl
  · rw [Nat.testBit_two_pow_add_gt (by omega)]; exact h.2 j (by omega)
theorem Mk.lt {f : Nat → Bool} {m x : Nat} (h : Mk f m x) (hm : m ≤ 8) : x < 256 := by
  have : 2 ^ m ≤ 2 ^ 8 := Nat.pow_le_pow_right (by omega) hm
  have := h.1
  omega
theorem Mk.done {f : Nat → Bool} {x : Nat} (h : Mk f 8 x) (b : UInt8) (hb : ∀ j, j < 8 → b.toNat.testBit j = f j) : b.toNat = x := by
  apply Nat.eq_of_testBit_eq
  intro j
  by_cases hj : j < 8
  · rw [hb j hj, h.2 j hj]
  · rw [byte_bit b j (by omega), Nat.testBit_lt_two_pow (Nat.lt_of_lt_of_le h.1 (Nat.pow_le_pow_right (by omega) (by omega)))]
theorem wb_byte (l : List UInt8) (i k j : Nat) (on : Bool) (hi : i < 8 * l.length) (hk : k < (wb l i on).length) (hj : j < 8) : (wb l i on)[k].toNat.testBit j = (if 8 * k + j = i then on else hb l (8 * k + j)) := by
  rw [← hb_wb l i (8 * k + j) on hi]
  unfold hb
  rw [show (8 * k + j) / 8 = k by omega, show (8 * k + j) % 8 = j by omega, List.getD_eq_getElem?_getD, List.getElem?_eq_getElem hk]
  rfl

/-- Is that bit between the two numbers, and as it is asked for? -/
def cnd (l : List UInt8) (a b : Int) (on : Bool) (i : Nat) : Bool := decide (a ≤ (i : Int)) && decide ((i : Int) < b) && (hb l i == on)
/-- How many of the first ones. -/
def cnt (l : List UInt8) (a b : Int) (j : Nat) : Nat := (List.range j).countP (cnd l a b true)
/-- The first of the first ones. -/
def fst (l : List UInt8) (a b : Int) (on : Bool) (j : Nat) : Option Nat := (List.range j).find? (cnd l a b on)
/-- Those of the first ones that are 1. -/
def onesTo (l : List UInt8) (j : Nat) : List Nat := (List.range j).filter (hb l)
def ones (l : List UInt8) : List Nat := onesTo l (8 * l.length)

theorem cnt_yes {l : List UInt8} {a b : Int} {j : Nat} (h : cnd l a b true j = true) : cnt l a b (j + 1) = cnt l a b j + 1 := by simp [cnt, List.range_succ, h]
theorem cnt_no {l : List UInt8} {a b : Int} {j : Nat} (h : cnd l a b true j = false) : cnt l a b (j + 1) = cnt l a b j := by simp [cnt, List.range_succ, h]
theorem cnt_le (l : List UInt8) (a b : Int) (j : Nat) : cnt l a b j ≤ j := by
  have := List.countP_le_length (p := cnd l a b true) (l := List.range j)
  simpa [cnt] using this
theorem cnt_same {l : List UInt8} {a b : Int} {j k : Nat} (hjk : j ≤ k) (h : ∀ i, j ≤ i → i < k → cnd l a b true i = false) : cnt l a b k = cnt l a b j := by
  obtain ⟨d, rfl⟩ : ∃ d, k = j + d := ⟨k - j, by omega⟩
  clear hjk
  induction d with
  | zero => rfl
  | succ d ih => rw [show j + (d + 1) = j + d + 1 by omega, cnt_no (h _ (by omega) (by omega)), ih fun i h1 h2 => h i h1 (by omega)]
theorem cnt_zero {l : List UInt8} {a b : Int} {k : Nat} (h : ∀ i, i < k → cnd l a b true i = false) : cnt l a b k = 0 := by
  rw [cnt_same (Nat.zero_le k) fun i _ h2 => h i h2]; rfl
theorem fst_no {l : List UInt8} {a b : Int} {on : Bool} {j : Nat} (h : ∀ i, i < j → cnd l a b on i = false) : fst l a b on j = none := by
  simp only [fst, List.find?_eq_none, List.mem_range]
  intro i hi
  simp [h i hi]
theorem fst_yes {l : List UInt8} {a b : Int} {on : Bool} {j k : Nat} (hk : k < j) (h : ∀ i, i < k → cnd l a b on i = false) (hc : cnd l a b on k = true) : fst l a b on j = some k := by
  simp only [fst]
  rw [List.find?_range_eq_some]
  refine ⟨hc, by simpa using hk, fun i hi => ?_⟩
  simp [h i hi]
theorem onesTo_yes {l : List UInt8} {j : Nat} (h : hb l j = true) : onesTo l (j + 1) = onesTo l j ++ [j] := by simp [onesTo, List.range_succ, h]
theorem onesTo_no {l : List UInt8} {j : Nat} (h : hb l j = false) : onesTo l (j + 1) = onesTo l j := by simp [onesTo, List.range_succ, h]
theorem onesTo_len (l : List UInt8) (j : Nat) : (onesTo l j).length ≤ j := by
  have := List.length_filter_le (hb l) (List.range j)
  simpa [onesTo] using this

/-- Two numbers for the ends, as they are cut to the bits that there are. -/
structure Ends (a b : Int) (n F T : Nat) : Prop where
  lo : max a 0 = (F : Int)
  hi : max (min b (8 * (n : Int))) 0 = (T : Int)
theorem ends_exist (a b : Int) (n : Nat) : ∃ F T, Ends a b n F T := ⟨(max a 0).toNat, (max (min b (8 * (n : Int))) 0).toNat, by omega, by omega⟩
section
variable {l : List UInt8} {a b : Int} {n F T : Nat} {on : Bool} (h : Ends a b n F T)
include h
theorem Ends.below {i : Nat} (hi : i < F) : cnd l a b on i = false := by
  have := h.lo
  have e : decide (a ≤ (i : Int)) = false := decide_eq_false (by omega)
  simp [cnd, e]
theorem Ends.above {i : Nat} (hi : T ≤ i) (hn : i < 8 * n) : cnd l a b on i = false := by
  have := h.hi
  have e : decide ((i : Int) < b) = false := decide_eq_false (by omega)
  simp [cnd, e]
theorem Ends.mid {i : Nat} (h1 : F ≤ i) (h2 : i < T) : cnd l a b on i = (hb l i == on) := by
  have := h.lo
  have := h.hi
  have e1 : decide (a ≤ (i : Int)) = true := decide_eq_true (by omega)
  have e2 : decide ((i : Int) < b) = true := decide_eq_true (by omega)
  simp [cnd, e1, e2]
theorem Ends.top : T ≤ 8 * n := by have := h.hi; omega
theorem Ends.cnt_start : cnt l a b F = 0 := cnt_zero fun _ hi => h.below hi
theorem Ends.cnt_none (hn : l.length = n) (hF : T ≤ F) : cnt l a b (8 * l.length) = 0 := cnt_zero fun i hi => by
  by_cases h1 : i < F
  · exact h.below h1
  · exact h.above (by omega) (by omega)
theorem Ends.cnt_done (hn : l.length = n) : cnt l a b (8 * l.length) = cnt l a b T :=
  cnt_same (by have := h.top; omega) fun i h1 h2 => h.above h1 (by omega)
theorem Ends.fst_none (hn : l.length = n) (hm : ∀ i, F ≤ i → i < T → (hb l i == on) = false) : fst l a b on (8 * l.length) = none := fst_no fun i hi => by
  by_cases h1 : i < F
  · exact h.below h1
  · by_cases h2 : i < T
    · rw [h.mid (by omega) h2]; exact hm i (by omega) h2
    · exact h.above (by omega) (by omega)
theorem Ends.fst_some (hn : l.length = n) {k : Nat} (h1 : F ≤ k) (h2 : k < T) (hm : ∀ i, F ≤ i → i < k → (hb l i == on) = false) (hk : (hb l k == on) = true) : fst l a b on (8 * l.length) = some k :=
  fst_yes (by have := h.top; omega) (fun i hi => by
    by_cases h3 : i < F
    · exact h.below h3
    · rw [h.mid (by omega) (by omega)]; exact hm i (by omega) hi) (by rw [h.mid h1 h2]; exact hk)
end
end Go.Proofs.Ytobjkknemnekjaa
