/-
  A list of bits, on paper: it goes up, what it lists is 1, and what is counted of it between two numbers is what is counted of the bits. No program occurs here.
-/
import Derived.Test.YtobjkknemnekjaaE
namespace Go.Proofs.Ytobjkknemnekjaa
open Go.RowKit

theorem ones_mem (l : List UInt8) (i : Nat) : i ∈ ones l ↔ i < 8 * l.length ∧ hb l i = true := by simp [ones, onesTo]
theorem ones_up (l : List UInt8) : (ones l).Pairwise (· < ·) := by
  unfold ones onesTo
  exact List.Pairwise.filter _ List.pairwise_lt_range
theorem ones_next (l : List UInt8) (i : Nat) (h : i + 1 < (ones l).length) : (ones l)[i] < (ones l)[i + 1] := (List.pairwise_iff_getElem.1 (ones_up l)) i (i + 1) (by omega) h (by omega)
theorem ones_hb (l : List UInt8) (i : Nat) (h : i < (ones l).length) : hb l (ones l)[i] = true := ((ones_mem l _).1 (List.getElem_mem h)).2
theorem ones_lt (l : List UInt8) (i : Nat) (h : i < (ones l).length) : (ones l)[i] < 8 * l.length := ((ones_mem l _).1 (List.getElem_mem h)).1

/-- Is a number between the two? -/
def inb (a b : Int) (i : Nat) : Bool := decide (a ≤ (i : Int)) && decide ((i : Int) < b)
theorem cnd_inb (l : List UInt8) (a b : Int) (i : Nat) : cnd l a b true i = (inb a b i && hb l i) := by
  unfold cnd inb
  cases hb l i <;> simp
theorem cnt_ones (l : List UInt8) (a b : Int) : cnt l a b (8 * l.length) = (ones l).countP (inb a b) := by
  unfold cnt ones onesTo
  rw [List.countP_filter]
  apply List.countP_congr
  intro i _
  rw [cnd_inb]
theorem fst_ones (l : List UInt8) (a b : Int) : fst l a b true (8 * l.length) = (ones l).find? (inb a b) := by
  unfold fst ones onesTo
  rw [List.find?_filter]
  congr 1
  funext i
  rw [cnd_inb]
  cases inb a b i <;> cases hb l i <;> rfl
theorem all1_ones (l : List UInt8) : all1 l = (ones l).length := by
  unfold all1
  rw [cnt_ones, List.countP_eq_length]
  intro i hi
  have := (ones_mem l i).1 hi
  simp [inb]
  omega
theorem cnt_split (l : List UInt8) (m : Nat) : cnt l 0 (m : Int) (8 * l.length) + cnt l (m : Int) (8 * (l.length : Int)) (8 * l.length) = all1 l := by
  rw [cnt_ones, cnt_ones, all1_ones]
  have h : ∀ L : List Nat, (∀ i ∈ L, i < 8 * l.length) → L.countP (inb 0 (m : Int)) + L.countP (inb (m : Int) (8 * (l.length : Int))) = L.length := by
    intro L
    induction L with
    | nil => intro _; rfl
    | cons x L ih =>
      intro hL
      have ih := ih fun i hi => hL i (by simp [hi])
      have hx := hL x (by simp)
      rw [List.countP_cons, List.countP_cons, List.length_cons]
      by_cases hxm : x < m
      · have e1 : inb 0 (m : Int) x = true := by simp [inb]; omega
        have e2 : inb (m : Int) (8 * (l.length : Int)) x = false := by simp [inb]; omega
        simp [e1, e2]
        omega
      · have e1 : inb 0 (m : Int) x = false := by simp [inb]; omega
        have e2 : inb (m : Int) (8 * (l.length : Int)) x = true := by simp [inb]; omega
        simp [e1, e2]
        omega
  exact h (ones l) fun i hi => ((ones_mem l i).1 hi).1

/-- What is known of the first ones of a list: how many lie between, and the first that does. -/
structure Seen (L : List Nat) (a b : Int) (j n : Nat) (f : Nat) (is : Bool) : Prop where
  num : n = (L.take j).countP (inb a b)
  one : (is = true → (L.take j).find? (inb a b) = some f) ∧ (is = false → (L.take j).find? (inb a b) = none ∧ f = 0)
theorem Seen.start (L : List Nat) (a b : Int) : Seen L a b 0 0 0 false := ⟨rfl, by simp, by simp⟩
section
variable {L : List Nat} {a b : Int} {j n f : Nat} {is : Bool}
theorem Seen.out (h : Seen L a b j n f is) (hj : j < L.length) (hi : inb a b L[j] = false) : Seen L a b (j + 1) n f is := by
  have e := List.take_succ_eq_append_getElem hj
  refine ⟨?_, ?_⟩
  · rw [e, List.countP_append, ← h.num]; simp [hi]
  · have h1 : (L.take (j + 1)).find? (inb a b) = (L.take j).find? (inb a b) := by
      rw [e, List.find?_append]
      simp [hi]
    rw [h1]
    exact h.one
theorem Seen.in1 (h : Seen L a b j n f false) (hj : j < L.length) (hi : inb a b L[j] = true) : Seen L a b (j + 1) (n + 1) L[j] true := by
  have e := List.take_succ_eq_append_getElem hj
  refine ⟨?_, ?_⟩
  · rw [e, List.countP_append, ← h.num]; simp [hi]
  · have h1 : (L.take (j + 1)).find? (inb a b) = some L[j] := by
      rw [e, List.find?_append, (h.one.2 rfl).1]
      simp [hi]
    rw [h1]
    simp
theorem Seen.in2 (h : Seen L a b j n f true) (hj : j < L.length) (hi : inb a b L[j] = true) : Seen L a b (j + 1) (n + 1) f true := by
  have e := List.take_succ_eq_append_getElem hj
  refine ⟨?_, ?_⟩
  · rw [e, List.countP_append, ← h.num]; simp [hi]
  · have h1 : (L.take (j + 1)).find? (inb a b) = some f := by
      rw [e, List.find?_append, h.one.1 rfl]
      rfl
    rw [h1]
    simp
theorem Seen.done {l : List UInt8} (h : Seen (ones l) a b j n f is) (hj : j = (ones l).length) : cnt l a b (8 * l.length) = n ∧ (fst l a b true (8 * l.length)).getD 0 = f ∧ (fst l a b true (8 * l.length)).isSome = is := by
  subst hj
  have h1 := h.num
  have h2 := h.one
  rw [List.take_length] at h1 h2
  rw [cnt_ones, fst_ones]
  refine ⟨h1.symm, ?_⟩
  cases is with
  | true => rw [h2.1 rfl]; simp
  | false => rw [(h2.2 rfl).1, (h2.2 rfl).2]; simp
theorem Seen.le (h : Seen L a b j n f is) : n ≤ j := by
  have := h.num
  have h2 := List.countP_le_length (p := inb a b) (l := L.take j)
  rw [List.length_take] at h2
  omega
end
end Go.Proofs.Ytobjkknemnekjaa
