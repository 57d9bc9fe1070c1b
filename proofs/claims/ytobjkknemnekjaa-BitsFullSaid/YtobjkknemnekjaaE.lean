/-
  Counting bits, on paper: what one bit more or less does to a count; the list and the count; that there is a first bit that is 0 as long as not all are 1. No program occurs here.
-/
import Derived.Test.YtobjkknemnekjaaA
namespace Go.Proofs.Ytobjkknemnekjaa
open Go.RowKit

/-- All that are 1. -/
def all1 (l : List UInt8) : Nat := cnt l 0 (8 * (l.length : Int)) (8 * l.length)
theorem cnd_all (l : List UInt8) (on : Bool) (i : Nat) (h : i < 8 * l.length) : cnd l 0 (8 * (l.length : Int)) on i = (hb l i == on) := by
  have e2 : decide ((i : Int) < 8 * (l.length : Int)) = true := decide_eq_true (by omega)
  simp [cnd, e2]
theorem countP_more (p p' : Nat → Bool) (i j : Nat) (hi : i < j) (h0 : p i = false) (h1 : p' i = true) (h : ∀ x, x < j → x ≠ i → p' x = p x) : (List.range j).countP p' = (List.range j).countP p + 1 := by
  induction j with
  | zero => omega
  | succ j ih =>
    rw [List.range_succ, List.countP_append, List.countP_append]
    by_cases e : i = j
    · subst e
      have h2 : (List.range i).countP p' = (List.range i).countP p := by
        apply List.countP_congr
        intro x hx
        rw [List.mem_range] at hx
        rw [h x (by omega) (by omega)]
      simp [h2, h0, h1]
    · rw [ih (by omega) fun x hx hne => h x (by omega) hne]
      have := h j (by omega) (by omega)
      simp [this]
      omega
theorem all1_on (l : List UInt8) (i : Nat) (h : i < 8 * l.length) (h0 : hb l i = false) : all1 (wb l i true) = all1 l + 1 := by
  unfold all1 cnt
  rw [length_wb]
  refine countP_more _ _ i _ h ?_ ?_ ?_
  · rw [cnd_all l true i h, h0]; rfl
  · have := cnd_all (wb l i true) true i (by rw [length_wb]; exact h)
    rw [length_wb] at this
    rw [this, hb_wb _ _ _ _ h, if_pos rfl]; rfl
  · intro x hx hne
    have := cnd_all (wb l i true) true x (by rw [length_wb]; exact hx)
    rw [length_wb] at this
    rw [this, cnd_all l true x hx, hb_wb _ _ _ _ h, if_neg hne]
theorem all1_off (l : List UInt8) (i : Nat) (h : i < 8 * l.length) (h0 : hb l i = true) : all1 l = all1 (wb l i false) + 1 := by
  have h1 := all1_on (wb l i false) i (by rw [length_wb]; exact h) (by rw [hb_wb _ _ _ _ h, if_pos rfl])
  have e : wb (wb l i false) i true = l := by rw [← h0]; exact wb_back l i false h
  rw [e] at h1
  exact h1
theorem all1_le (l : List UInt8) : all1 l ≤ 8 * l.length := cnt_le _ _ _ _

/-- The first bit that is 0, of all. -/
theorem fst_zero (l : List UInt8) (h : all1 l < 8 * l.length) : ∃ i, fst l 0 (8 * (l.length : Int)) false (8 * l.length) = some i ∧ i < 8 * l.length ∧ hb l i = false := by
  cases hf : fst l 0 (8 * (l.length : Int)) false (8 * l.length) with
  | some i =>
    refine ⟨i, rfl, ?_⟩
    unfold fst at hf
    rw [List.find?_range_eq_some] at hf
    obtain ⟨h1, h2, _⟩ := hf
    have hi : i < 8 * l.length := by simpa using h2
    rw [cnd_all l false i hi] at h1
    exact ⟨hi, by simpa using h1⟩
  | none =>
    exfalso
    have h1 : all1 l = 8 * l.length := by
      unfold all1 cnt
      have : (List.range (8 * l.length)).countP (cnd l 0 (8 * (l.length : Int)) true) = (List.range (8 * l.length)).length := by
        rw [List.countP_eq_length]
        intro i hi
        have hi' : i < 8 * l.length := by simpa using hi
        unfold fst at hf
        rw [List.find?_eq_none] at hf
        have h2 := hf i hi
        rw [cnd_all l false i hi'] at h2
        rw [cnd_all l true i hi']
        cases hx : hb l i with
        | false => rw [hx] at h2; exact absurd rfl h2
        | true => rfl
      rw [this, List.length_range]
    omega
theorem fst_full (l : List UInt8) (h : all1 l = 8 * l.length) : fst l 0 (8 * (l.length : Int)) false (8 * l.length) = none := by
  unfold all1 cnt at h
  have h2 : (List.range (8 * l.length)).countP (cnd l 0 (8 * (l.length : Int)) true) = (List.range (8 * l.length)).length := by rw [h, List.length_range]
  rw [List.countP_eq_length] at h2
  refine fst_no fun i hi => ?_
  have h3 := h2 i (by simpa using hi)
  rw [cnd_all l true i hi] at h3
  rw [cnd_all l false i hi]
  cases hx : hb l i with
  | false => rw [hx] at h3; cases h3
  | true => rfl
end Go.Proofs.Ytobjkknemnekjaa
