/-
  Plain facts on sets of categories as the bits of numbers below 65536: their lists, unions, intersections, and the order of lists. No program occurs here.
-/
import Derived.Laws.BitsAllLaws
import Derived.Lib.Join
namespace Go.Proofs.Ytnahccdjeilboaa

/-- A label's first categories, below j. -/
def catsTo (a j : Nat) : List Nat := (List.range j).filter (a.testBit ·)
/-- A label's categories. -/
def cats (a : Nat) : List Nat := catsTo a 16
theorem catsTo_succ (a j : Nat) : catsTo a (j + 1) = catsTo a j ++ if a.testBit j then [j] else [] := by
  unfold catsTo
  rw [List.range_succ, List.filter_append]
  cases h : a.testBit j <;> simp [h]
theorem catsTo_yes {a j : Nat} (h : a.testBit j = true) : catsTo a (j + 1) = catsTo a j ++ [j] := by rw [catsTo_succ, if_pos h]
theorem catsTo_no {a j : Nat} (h : a.testBit j = false) : catsTo a (j + 1) = catsTo a j := by rw [catsTo_succ, h]; simp
theorem catsTo_length (a j : Nat) : (catsTo a j).length ≤ j := by
  have := List.length_filter_le (a.testBit ·) (List.range j)
  simpa [catsTo] using this
theorem mem_cats {a k : Nat} : k ∈ cats a ↔ k < 16 ∧ a.testBit k = true := by simp [cats, catsTo]
theorem cats_lt {a k : Nat} (h : k ∈ cats a) : k < 16 := (mem_cats.1 h).1

theorem lab_bit {a : Nat} (h : a < 65536) {k : Nat} (hk : 16 ≤ k) : a.testBit k = false :=
  Nat.testBit_lt_two_pow (Nat.lt_of_lt_of_le h (Nat.pow_le_pow_right (n := 2) (by omega) hk))
theorem lab_ext {a b : Nat} (ha : a < 65536) (hb : b < 65536) (h : ∀ k, k < 16 → a.testBit k = b.testBit k) : a = b := by
  apply Nat.eq_of_testBit_eq
  intro k
  by_cases hk : k < 16
  · exact h k hk
  · rw [lab_bit ha (by omega), lab_bit hb (by omega)]
theorem cats_inj {a b : Nat} (ha : a < 65536) (hb : b < 65536) (h : cats a = cats b) : a = b := by
  apply lab_ext ha hb
  intro k hk
  have h1 : k ∈ cats a ↔ k ∈ cats b := by rw [h]
  rw [mem_cats, mem_cats] at h1
  rw [Bool.eq_iff_iff]
  exact ⟨fun x => (h1.1 ⟨hk, x⟩).2, fun x => (h1.2 ⟨hk, x⟩).2⟩

/-- A label with a category more. -/
def wth (a k : Nat) : Nat := a ||| 2 ^ k
theorem wth_bit (a k j : Nat) : (wth a k).testBit j = (a.testBit j || decide (k = j)) := by
  unfold wth; rw [Nat.testBit_or, Nat.testBit_two_pow]
theorem lab_of_bits {a : Nat} (h : ∀ k, 16 ≤ k → a.testBit k = false) : a < 65536 := Nat.lt_pow_two_of_testBit a (n := 16) h
theorem wth_lt {a k : Nat} (ha : a < 65536) (hk : k < 16) : wth a k < 65536 := by
  apply lab_of_bits
  intro j hj
  rw [wth_bit, lab_bit ha hj]
  simp; omega
theorem wth_there {a k : Nat} (h : a.testBit k = true) : wth a k = a := by
  apply Nat.eq_of_testBit_eq
  intro j
  rw [wth_bit]
  by_cases e : k = j
  · subst e; simp [h]
  · simp [e]
theorem wth_add {a k : Nat} (h : a.testBit k = false) : a + 2 ^ k = wth a k := by
  have hp : 0 < 2 ^ k := Nat.two_pow_pos k
  have h1 : a / 2 ^ k % 2 = 0 := by
    have := Nat.testBit_eq_decide_div_mod_eq (x := a) (i := k)
    rw [h] at this
    have := of_decide_eq_false this.symm
    omega
  have hlo : a % 2 ^ k < 2 ^ k := Nat.mod_lt _ hp
  have e1 : a = 2 ^ (k + 1) * (a / 2 ^ k / 2) + a % 2 ^ k := by
    have h2 := Nat.div_add_mod a (2 ^ k)
    have h3 : a / 2 ^ k = 2 * (a / 2 ^ k / 2) := by omega
    have h4 : 2 ^ (k + 1) * (a / 2 ^ k / 2) = 2 ^ k * (2 * (a / 2 ^ k / 2)) := by rw [Nat.pow_succ, Nat.mul_assoc]
    rw [h4, ← h3]
    exact h2.symm
  have e2 : 2 ^ k * 1 + a % 2 ^ k = 2 ^ k * 1 ||| a % 2 ^ k := Nat.two_pow_add_eq_or_of_lt hlo 1
  have e3 := Nat.two_pow_add_eq_or_of_lt (i := k + 1) (b := 2 ^ k * 1 + a % 2 ^ k) (by rw [Nat.pow_succ]; omega) (a / 2 ^ k / 2)
  have e4 := Nat.two_pow_add_eq_or_of_lt (i := k + 1) (b := a % 2 ^ k) (by rw [Nat.pow_succ]; omega) (a / 2 ^ k / 2)
  unfold wth
  have e5 : a ||| 2 ^ k = 2 ^ (k + 1) * (a / 2 ^ k / 2) + (2 ^ k * 1 + a % 2 ^ k) := by
    rw [e3, e2, Nat.mul_one]
    conv => lhs; rw [e1, e4]
    rw [Nat.or_assoc, Nat.or_comm (a % 2 ^ k)]
  rw [e5]
  omega

/-- The label of categories. -/
def labOf : List Nat → Nat → Nat
  | [], a => a
  | k :: r, a => labOf r (wth a k)
theorem labOf_bit (l : List Nat) (a j : Nat) : (labOf l a).testBit j = (a.testBit j || decide (j ∈ l)) := by
  induction l generalizing a with
  | nil => simp [labOf]
  | cons k r ih =>
    rw [labOf, ih, wth_bit]
    by_cases e : k = j
    · subst e; simp
    · have e' : ¬ j = k := fun h => e h.symm
      simp [e, e']
theorem labOf_lt (l : List Nat) (a : Nat) (ha : a < 65536) (h : ∀ k ∈ l, k < 16) : labOf l a < 65536 := by
  induction l generalizing a with
  | nil => exact ha
  | cons k r ih => exact ih _ (wth_lt ha (h k (by simp))) fun j hj => h j (by simp [hj])
theorem labOf_append (l m : List Nat) (a : Nat) : labOf (l ++ m) a = labOf m (labOf l a) := by
  induction l generalizing a with
  | nil => rfl
  | cons k r ih => exact ih _
theorem labOf_cats {a : Nat} (ha : a < 65536) : labOf (cats a) 0 = a := by
  apply lab_ext (labOf_lt _ _ (by omega) fun k hk => cats_lt hk) ha
  intro k hk
  rw [labOf_bit, Nat.zero_testBit, Bool.false_or, Bool.eq_iff_iff, decide_eq_true_eq, mem_cats]
  exact ⟨fun h => h.2, fun h => ⟨hk, h⟩⟩

/-- What Of answers, of any numbers. -/
def ofL (l : List Int) : Option Nat := if l.all fun k => decide (0 ≤ k ∧ k < 16) then some (labOf (l.map Int.toNat) 0) else none
def goodB (k : Int) : Bool := decide (0 ≤ k ∧ k < 16)

/-- Does a flow to b? -/
def flowB (a b : Nat) : Bool := a &&& b == a
theorem flowB_iff {a b : Nat} : flowB a b = true ↔ ∀ k, a.testBit k = true → b.testBit k = true := by
  unfold flowB
  rw [beq_iff_eq]
  constructor
  · intro h k hk
    have : (a &&& b).testBit k = true := by rw [h]; exact hk
    rw [Nat.testBit_and, hk] at this
    simpa using this
  · intro h
    apply Nat.eq_of_testBit_eq
    intro k
    rw [Nat.testBit_and]
    cases hk : a.testBit k
    · rfl
    · simpa using h k hk
theorem flowB_andNot {a b : Nat} (ha : a < 65536) (hb : b < 65536) : (a &&& (65535 - b) == 0) = flowB a b := by
  have hc : ∀ k, k < 16 → (65535 - b).testBit k = !b.testBit k := by
    intro k hk
    have h1 : 65535 - b = 2 ^ 16 - (b + 1) := by omega
    rw [h1, Nat.testBit_two_pow_sub_succ (by omega)]
    simp [hk]
  rw [Bool.eq_iff_iff, beq_iff_eq, flowB_iff]
  constructor
  · intro h k hk
    by_cases h16 : k < 16
    · have : (a &&& (65535 - b)).testBit k = false := by rw [h]; exact Nat.zero_testBit _
      rw [Nat.testBit_and, hk, hc k h16] at this
      simpa using this
    · rw [lab_bit ha (by omega)] at hk; cases hk
  · intro h
    apply Nat.eq_of_testBit_eq
    intro k
    rw [Nat.testBit_and, Nat.zero_testBit]
    by_cases h16 : k < 16
    · rw [hc k h16]
      cases hk : a.testBit k
      · rfl
      · simp [h k hk]
    · rw [lab_bit ha (by omega)]; rfl

/-- The order of two lists of one length: the first place where they part. -/
def lexB : List Nat → List Nat → Bool
  | x :: l, y :: m => if x = y then lexB l m else decide (x < y)
  | _, _ => false
/-- Does a stand ahead of b? -/
def lessL (l m : List Nat) : Bool := if l.length = m.length then lexB l m else decide (l.length < m.length)
def lessB (a b : Nat) : Bool := lessL (cats a) (cats b)

theorem lexB_self (l : List Nat) : lexB l l = false := by
  induction l with
  | nil => rfl
  | cons x l ih => simp [lexB, ih]
theorem lexB_asymm (l m : List Nat) : lexB l m = true → lexB m l = false := by
  induction l generalizing m with
  | nil => intro h; cases h
  | cons x l ih =>
    cases m with
    | nil => intro h; cases h
    | cons y m =>
      simp only [lexB]
      intro h
      by_cases e : x = y
      · subst e; rw [if_pos rfl] at h ⊢; exact ih m h
      · rw [if_neg e, decide_eq_true_eq] at h
        rw [if_neg (fun h => e h.symm), decide_eq_false_iff_not]; omega
theorem lexB_total (l m : List Nat) (hl : l.length = m.length) : lexB l m = false → lexB m l = false → l = m := by
  induction l generalizing m with
  | nil => intro _ _; cases m with
    | nil => rfl
    | cons y m => simp at hl
  | cons x l ih =>
    cases m with
    | nil => simp at hl
    | cons y m =>
      simp only [lexB]
      intro h1 h2
      by_cases e : x = y
      · subst e
        rw [if_pos rfl] at h1 h2
        rw [ih m (by simpa using hl) h1 h2]
      · rw [if_neg e, decide_eq_false_iff_not] at h1
        rw [if_neg (fun h => e h.symm), decide_eq_false_iff_not] at h2
        omega
theorem lexB_trans (l m n : List Nat) : lexB l m = true → lexB m n = true → lexB l n = true := by
  induction l generalizing m n with
  | nil => intro h; cases h
  | cons x l ih =>
    cases m with
    | nil => intro h; cases h
    | cons y m =>
      cases n with
      | nil => intro _ h; cases h
      | cons z n =>
        simp only [lexB]
        intro h1 h2
        by_cases e : x = y
        · subst e
          rw [if_pos rfl] at h1
          by_cases e2 : x = z
          · subst e2; rw [if_pos rfl] at h2 ⊢; exact ih m n h1 h2
          · rw [if_neg e2] at h2 ⊢; exact h2
        · rw [if_neg e, decide_eq_true_eq] at h1
          by_cases e2 : y = z
          · subst e2; rw [if_neg e, decide_eq_true_eq]; exact h1
          · rw [if_neg e2, decide_eq_true_eq] at h2
            rw [if_neg (by omega), decide_eq_true_eq]; omega

theorem lessB_self (a : Nat) : lessB a a = false := by simp [lessB, lessL, lexB_self]
theorem lessB_asymm {a b : Nat} (h : lessB a b = true) : lessB b a = false := by
  unfold lessB lessL at *
  by_cases e : (cats a).length = (cats b).length
  · rw [if_pos e] at h
    rw [if_pos e.symm]
    exact lexB_asymm _ _ h
  · rw [if_neg e, decide_eq_true_eq] at h
    rw [if_neg (fun h => e h.symm), decide_eq_false_iff_not]
    omega
theorem lessB_total {a b : Nat} (ha : a < 65536) (hb : b < 65536) (h1 : lessB a b = false) (h2 : lessB b a = false) : a = b := by
  unfold lessB lessL at *
  by_cases e : (cats a).length = (cats b).length
  · rw [if_pos e] at h1
    rw [if_pos e.symm] at h2
    exact cats_inj ha hb (lexB_total _ _ e h1 h2)
  · rw [if_neg e, decide_eq_false_iff_not] at h1
    rw [if_neg (fun h => e h.symm), decide_eq_false_iff_not] at h2
    omega
theorem lessB_trans {a b c : Nat} (h1 : lessB a b = true) (h2 : lessB b c = true) : lessB a c = true := by
  unfold lessB lessL at *
  by_cases e : (cats a).length = (cats b).length
  · rw [if_pos e] at h1
    by_cases e2 : (cats b).length = (cats c).length
    · rw [if_pos e2] at h2
      rw [if_pos (e.trans e2)]
      exact lexB_trans _ _ _ h1 h2
    · rw [if_neg e2, decide_eq_true_eq] at h2
      rw [if_neg (by omega), decide_eq_true_eq]; omega
  · rw [if_neg e, decide_eq_true_eq] at h1
    by_cases e2 : (cats b).length = (cats c).length
    · rw [if_neg (by omega), decide_eq_true_eq]; omega
    · rw [if_neg e2, decide_eq_true_eq] at h2
      rw [if_neg (by omega), decide_eq_true_eq]; omega
theorem filter_sub {α : Type} (p q : α → Bool) (l : List α) (h : ∀ x ∈ l, p x = true → q x = true) : (l.filter p).Sublist (l.filter q) := by
  induction l with
  | nil => exact List.Sublist.refl _
  | cons x l ih =>
    have ih := ih fun y hy => h y (by simp [hy])
    cases hp : p x
    · rw [List.filter_cons_of_neg (by simp [hp])]
      cases hq : q x
      · rw [List.filter_cons_of_neg (by simp [hq])]; exact ih
      · rw [List.filter_cons_of_pos hq]; exact ih.cons _
    · rw [List.filter_cons_of_pos hp, List.filter_cons_of_pos (h x (by simp) hp)]
      exact ih.cons_cons _
theorem lessB_flow {a b : Nat} (ha : a < 65536) (hb : b < 65536) (hne : a ≠ b) (h : flowB a b = true) : lessB a b = true := by
  have hs : (cats a).Sublist (cats b) := filter_sub _ _ _ fun k _ => flowB_iff.1 h k
  have hl := hs.length_le
  have hn : (cats a).length ≠ (cats b).length := fun e => hne (cats_inj ha hb (hs.eq_of_length e))
  unfold lessB lessL
  rw [if_neg hn, decide_eq_true_eq]
  omega
end Go.Proofs.Ytnahccdjeilboaa
