/-
  Rows of labels on paper: which are valid, a label's row, a row more and a row less; how rows lie in memory.
-/
import Derived.Test.YtdecllllcoflbaaL
namespace Go.Proofs.Ytdecllllcoflbaa.Intern
open Go.RowKit

/-- A row: its label, and how often it is needed. -/
structure Rw where
  lab : Nat
  refs : Int
/-- A free one. -/
def Rw.z : Rw := ⟨0, 0⟩
def Rw.cells (r : Rw) : List Value := [.int .u16 (r.lab : Int), .int .i64 r.refs]
def Rw.val (r : Rw) : Value := .agg #[.int .u16 (r.lab : Int), .int .i64 r.refs]
structure Rw.Ok (r : Rw) : Prop where
  lab : r.lab < 65536
  lo : -9223372036854775808 ≤ r.refs
  hi : r.refs ≤ 9223372036854775807
def Oks (l : List Rw) : Prop := ∀ r ∈ l, r.Ok

/-- The cells of rows, one behind the other. -/
def rowsV : List Rw → List Value
  | [] => []
  | r :: l => .int .u16 (r.lab : Int) :: .int .i64 r.refs :: rowsV l
theorem length_rowsV (l : List Rw) : (rowsV l).length = l.length * 2 := by
  induction l with
  | nil => rfl
  | cons r l ih => simp [rowsV, ih]; omega
theorem rowsV_append (l m : List Rw) : rowsV (l ++ m) = rowsV l ++ rowsV m := by
  induction l with
  | nil => rfl
  | cons r l ih => simp [rowsV, ih]
theorem rowsV_get : ∀ (l : List Rw) (i : Nat) (r : Rw), l[i]? = some r → (rowsV l)[i * 2]? = some (.int .u16 (r.lab : Int)) ∧ (rowsV l)[i * 2 + 1]? = some (.int .i64 r.refs)
  | [], i, r, h => by simp at h
  | s :: l, 0, r, h => by
    obtain rfl : s = r := by simpa using h
    exact ⟨rfl, rfl⟩
  | s :: l, i + 1, r, h => by
    have := rowsV_get l i r (by simpa using h)
    have e : (i + 1) * 2 = i * 2 + 1 + 1 := by omega
    rw [e]
    exact this
theorem rowsV_set : ∀ (l : List Rw) (i : Nat) (r : Rw), i < l.length → rowsV (l.set i r) = ((rowsV l).set (i * 2) (.int .u16 (r.lab : Int))).set (i * 2 + 1) (.int .i64 r.refs)
  | [], i, r, h => by simp at h
  | s :: l, 0, r, h => rfl
  | s :: l, i + 1, r, h => by
    have := rowsV_set l i r (by simpa using h)
    have e : (i + 1) * 2 = i * 2 + 1 + 1 := by omega
    rw [e]
    simp only [List.set_cons_succ, rowsV, this]
theorem rowsV_one (l : List Rw) : ∀ u ∈ rowsV l, u.oneCell' = true := by
  induction l with
  | nil => simp [rowsV]
  | cons r l ih =>
    intro u hu
    simp only [rowsV, List.mem_cons] at hu
    rcases hu with rfl | rfl | hu
    · rfl
    · rfl
    · exact ih u hu
theorem rowsV_take (l : List Rw) (k : Nat) : rowsV (l.take k) = (rowsV l).take (k * 2) := by
  induction l generalizing k with
  | nil => simp [rowsV]
  | cons r l ih =>
    cases k with
    | zero => simp [rowsV]
    | succ k =>
      have e : (k + 1) * 2 = k * 2 + 1 + 1 := by omega
      rw [e]
      simp [rowsV, ih]
theorem rowsV_inj : ∀ {l m : List Rw}, rowsV l = rowsV m → l = m
  | [], [], _ => rfl
  | [], _ :: _, h => by simp [rowsV] at h
  | _ :: _, [], h => by simp [rowsV] at h
  | r :: l, s :: m, h => by
    simp only [rowsV, List.cons.injEq, Value.int.injEq, true_and] at h
    obtain ⟨h1, h2, h3⟩ := h
    have e1 : r.lab = s.lab := by omega
    obtain rfl : r = s := by cases r; cases s; simp_all
    rw [rowsV_inj h3]

/-- A row as it is read. -/
theorem rd_row {w : World} {B : Nat} {A : Option Addr} {l : List Rw} (h : Rd w B A (rowsV l)) {i : Nat} {r : Rw} (hi : l[i]? = some r) :
    ∃ b o, A = some ⟨b, o, none⟩ ∧ b < B ∧ w.cell? ⟨b, o + i * 2, none⟩ = some (.int .u16 (r.lab : Int)) ∧ w.cell? ⟨b, o + i * 2 + 1, none⟩ = some (.int .i64 r.refs) := by
  obtain ⟨h1, h2⟩ := rowsV_get l i r hi
  rcases h with h | ⟨b, o, h3, h4, h5⟩
  · rw [h] at h1; simp at h1
  · exact ⟨b, o, h3, h4, by rw [h5 _ _ h1], by rw [Nat.add_assoc, h5 _ _ h2]⟩
theorem rd_rows {w : World} {B : Nat} {A : Option Addr} {l : List Rw} (h : Rd w B A (rowsV l)) : l = [] ∨ ∃ b o, A = some ⟨b, o, none⟩ ∧ b < B ∧ ∀ (i : Nat) r, l[i]? = some r → w.cell? ⟨b, o + i * 2, none⟩ = some (.int .u16 (r.lab : Int)) ∧ w.cell? ⟨b, o + i * 2 + 1, none⟩ = some (.int .i64 r.refs) := by
  cases l with
  | nil => exact .inl rfl
  | cons r l =>
    obtain ⟨b, o, rfl, hb, _⟩ := rd_row h (i := 0) (r := r) rfl
    refine .inr ⟨b, o, rfl, hb, fun i s hi => ?_⟩
    obtain ⟨b', o', h1, _, h2⟩ := rd_row h hi
    cases h1
    exact h2

/-- An own row of rows, read. -/
theorem own_rows {w : World} {base : Nat} {v : Value} {l : List Rw} (h : w.ownsRow base 37 2 v l.length (rowsV l)) :
    ∃ A c, v = .slice A l.length c ∧ l.length ≤ c ∧ c ≤ maxLen ∧ Rd w w.heap.size A (rowsV l) := by
  rcases h.2 with ⟨rfl, h0⟩ | ⟨g, cap, cur, rfl, hb, hg, h1, h2, h3, h4⟩
  · have : l = [] := List.eq_nil_of_length_eq_zero h0
    subst this
    exact ⟨none, 0, rfl, Nat.le_refl _, Nat.zero_le _, .inl rfl⟩
  · refine ⟨_, cap, rfl, h1, h2, .inr ⟨g, 0, rfl, ?_, fun j u hu => ?_⟩⟩
    · rcases Nat.lt_or_ge g w.heap.size with hlt | hge
      · exact hlt
      · rw [Array.getElem?_eq_none hge] at hg; cases hg
    · have hj : j < l.length * 2 := by
        have := (List.getElem?_eq_some_iff.1 hu).1
        rw [length_rowsV] at this
        exact this
      rw [Nat.zero_add, h.cellAt j hj, hu]

def free (r : Rw) : Bool := r.refs == 0
def hasL (a : Nat) (r : Rw) : Bool := !(r.refs == 0) && r.lab == a
def fits (r : Rw) : Bool := if r.refs = 0 then r.lab == 0 else decide (0 < r.refs) && decide (r.refs ≤ 65535)

/-- Valid rows. -/
structure Right (l : List Rw) : Prop where
  len : l.length = 16
  fits : ∀ (i : Nat) r, l[i]? = some r → fits r = true
  one : ∀ (i k : Nat) r s, l[i]? = some r → l[k]? = some s → r.refs ≠ 0 → s.refs ≠ 0 → r.lab = s.lab → i = k

theorem fits_lo {r : Rw} (h : fits r = true) : 0 ≤ r.refs := by
  unfold Intern.fits at h
  split at h
  · omega
  · simp at h; omega
theorem fits_hi {r : Rw} (h : fits r = true) : r.refs ≤ 65535 := by
  unfold Intern.fits at h
  split at h
  · omega
  · simp at h; omega
theorem fits_free {r : Rw} (h : fits r = true) (h0 : r.refs = 0) : r.lab = 0 := by
  unfold Intern.fits at h
  rw [if_pos h0] at h
  simpa using h
theorem fits_mk {r : Rw} (h1 : 0 < r.refs) (h2 : r.refs ≤ 65535) : fits r = true := by
  unfold Intern.fits
  rw [if_neg (by omega)]
  simp [h1, h2]

/-- A label's row. -/
def fnd (l : List Rw) (a : Nat) : Option Nat := l.findIdx? (hasL a)
theorem fnd_some {l : List Rw} {a i : Nat} (h : fnd l a = some i) : ∃ r, l[i]? = some r ∧ r.refs ≠ 0 ∧ r.lab = a ∧ ∀ k s, k < i → l[k]? = some s → ¬ (s.refs ≠ 0 ∧ s.lab = a) := by
  obtain ⟨hi, h1, h2⟩ := List.findIdx?_eq_some_iff_getElem.1 h
  refine ⟨l[i], List.getElem?_eq_getElem hi, ?_, ?_, fun k s hk hs => ?_⟩
  · intro h0; simp [hasL, h0] at h1
  · simp [hasL] at h1; exact h1.2
  · obtain ⟨hk', rfl⟩ := List.getElem?_eq_some_iff.1 hs
    have := h2 k hk
    simp [hasL] at this
    intro ⟨h3, h4⟩
    exact this h3 h4
theorem fnd_none {l : List Rw} {a : Nat} (h : fnd l a = none) : ∀ (k : Nat) s, l[k]? = some s → ¬ (s.refs ≠ 0 ∧ s.lab = a) := by
  intro k s hs ⟨h1, h2⟩
  have := List.findIdx?_eq_none_iff.1 h s (List.mem_of_getElem? hs)
  simp [hasL] at this
  exact this h1 h2
theorem fnd_mk {l : List Rw} {a i : Nat} {r : Rw} (h : l[i]? = some r) (h0 : r.refs ≠ 0) (ha : r.lab = a) (hk : ∀ (k : Nat) s, k < i → l[k]? = some s → ¬ (s.refs ≠ 0 ∧ s.lab = a)) : fnd l a = some i := by
  obtain ⟨hi, rfl⟩ := List.getElem?_eq_some_iff.1 h
  refine List.findIdx?_eq_some_iff_getElem.2 ⟨hi, by simp [hasL, h0, ha], fun k hk' => ?_⟩
  have := hk k _ hk' (List.getElem?_eq_getElem (by omega))
  simp [hasL]
  intro h1 h2
  exact this ⟨h1, h2⟩
theorem Right.fnd_at {l : List Rw} (h : Right l) {i : Nat} {r : Rw} (hi : l[i]? = some r) (h0 : r.refs ≠ 0) : fnd l r.lab = some i :=
  fnd_mk hi h0 rfl fun k s hk hs ⟨h1, h2⟩ => by
    have := h.one k i s r hs hi h1 h0 h2
    omega
/-- A row that is not in order, as the program looks for it: it, or the first one with its label. -/
def Good (l : List Rw) (i : Nat) (r : Rw) : Prop := fits r = true ∧ (r.refs = 0 ∨ fnd l r.lab = some i)
theorem right_of_good {l : List Rw} (hl : l.length = 16) (h : ∀ (i : Nat) r, l[i]? = some r → Good l i r) : Right l := by
  refine ⟨hl, fun i r hi => (h i r hi).1, fun i k r s hi hk h1 h2 h3 => ?_⟩
  rcases (h i r hi).2 with h4 | h4
  · exact absurd h4 h1
  rcases (h k s hk).2 with h5 | h5
  · exact absurd h5 h2
  rw [h3, h5] at h4
  injection h4 with h4
  exact h4.symm
theorem Right.good {l : List Rw} (h : Right l) {i : Nat} {r : Rw} (hi : l[i]? = some r) : Good l i r := by
  refine ⟨h.fits i r hi, ?_⟩
  by_cases h0 : r.refs = 0
  · exact .inl h0
  · exact .inr (h.fnd_at hi h0)

/-- Two rows that may not both be there. -/
def clash (r s : Rw) : Prop := 0 < r.refs ∧ 0 < s.refs ∧ r.lab = s.lab
theorem right_of_pairs {l : List Rw} (hl : l.length = 16) (h : ∀ (i : Nat) r, l[i]? = some r → fits r = true ∧ ∀ (k : Nat) s, k < i → l[k]? = some s → ¬ clash r s) : Right l := by
  have h0 : ∀ (i : Nat) r, l[i]? = some r → r.refs ≠ 0 → 0 < r.refs := fun i r hi h0 => by have := fits_lo (h i r hi).1; omega
  refine ⟨hl, fun i r hi => (h i r hi).1, fun i k r s hi hk h1 h2 h3 => ?_⟩
  rcases Nat.lt_trichotomy i k with hlt | he | hlt
  · exact absurd ⟨h0 k s hk h2, h0 i r hi h1, h3.symm⟩ ((h k s hk).2 i r hlt hi)
  · exact he
  · exact absurd ⟨h0 i r hi h1, h0 k s hk h2, h3⟩ ((h i r hi).2 k s hlt hk)
theorem Right.pairs {l : List Rw} (h : Right l) {i k : Nat} {r s : Rw} (hi : l[i]? = some r) (hk : l[k]? = some s) (hlt : k < i) : ¬ clash r s := fun ⟨h1, h2, h3⟩ => by
  have := h.one i k r s hi hk (by omega) (by omega) h3
  omega

theorem Right.set {l : List Rw} (h : Right l) {i : Nat} {r : Rw} (hi : i < 16) (hr : Intern.fits r = true) (ho : ∀ (k : Nat) s, k ≠ i → l[k]? = some s → s.refs ≠ 0 → r.refs ≠ 0 → s.lab ≠ r.lab) : Right (l.set i r) := by
  have hl := h.len
  have hget : ∀ (k : Nat) s, (l.set i r)[k]? = some s → (k = i ∧ s = r) ∨ (k ≠ i ∧ l[k]? = some s) := fun k s hk => by
    rw [List.getElem?_set] at hk
    split at hk
    · rename_i e
      rw [if_pos (by omega)] at hk
      injection hk with hk
      exact .inl ⟨e.symm, hk.symm⟩
    · rename_i e
      exact .inr ⟨fun e' => e e'.symm, hk⟩
  refine ⟨by simpa using hl, fun k s hk => ?_, fun k m s t hk hm h1 h2 h3 => ?_⟩
  · rcases hget k s hk with ⟨_, rfl⟩ | ⟨_, hk'⟩
    · exact hr
    · exact h.fits k s hk'
  · rcases hget k s hk with ⟨rfl, rfl⟩ | ⟨hki, hk'⟩ <;> rcases hget m t hm with ⟨rfl, rfl⟩ | ⟨hmi, hm'⟩
    · rfl
    · exact absurd h3.symm (ho m t hmi hm' h2 h1)
    · exact absurd h3 (ho k s hki hk' h1 h2)
    · exact h.one k m s t hk' hm' h1 h2 h3
/-- A free row's place. -/
def freeAt (l : List Rw) : Option Nat := l.findIdx? free
theorem freeAt_some {l : List Rw} {i : Nat} (h : freeAt l = some i) : ∃ r, l[i]? = some r ∧ r.refs = 0 ∧ ∀ (k : Nat) s, k < i → l[k]? = some s → s.refs ≠ 0 := by
  obtain ⟨hi, h1, h2⟩ := List.findIdx?_eq_some_iff_getElem.1 h
  refine ⟨l[i], List.getElem?_eq_getElem hi, by simpa [free] using h1, fun k s hk hs => ?_⟩
  obtain ⟨hk', rfl⟩ := List.getElem?_eq_some_iff.1 hs
  simpa [free] using h2 k hk
theorem freeAt_none {l : List Rw} (h : freeAt l = none) : ∀ (k : Nat) s, l[k]? = some s → s.refs ≠ 0 := by
  intro k s hs
  have := List.findIdx?_eq_none_iff.1 h s (List.mem_of_getElem? hs)
  simpa [free] using this

/-- A label more in its row. -/
theorem Right.more {l : List Rw} (h : Right l) {a i : Nat} {r : Rw} (hf : fnd l a = some i) (hi : l[i]? = some r) (hr : r.refs ≠ 65535) : Right (l.set i ⟨r.lab, r.refs + 1⟩) := by
  obtain ⟨r', hi', h0, ha, _⟩ := fnd_some hf
  rw [hi] at hi'
  injection hi' with hi'
  subst hi'
  have hlt : i < l.length := (List.getElem?_eq_some_iff.1 hi).1
  have h1 := fits_lo (h.fits i r hi)
  have h2 := fits_hi (h.fits i r hi)
  refine h.set (by rw [← h.len]; exact hlt) (fits_mk (by show 0 < r.refs + 1; omega) (by show r.refs + 1 ≤ 65535; omega)) fun k s hk hs h3 _ h5 => ?_
  exact hk (h.one k i s r hs hi h3 h0 h5)
/-- A label in a free row. -/
theorem Right.new {l : List Rw} (h : Right l) {a i : Nat} (hf : fnd l a = none) (hi : freeAt l = some i) : Right (l.set i ⟨a, 1⟩) := by
  obtain ⟨r, hi', h0, _⟩ := freeAt_some hi
  have hlt : i < l.length := (List.getElem?_eq_some_iff.1 hi').1
  exact h.set (by rw [← h.len]; exact hlt) (fits_mk (by show (0 : Int) < 1; omega) (by show (1 : Int) ≤ 65535; omega)) fun k s hk hs h3 _ h5 => fnd_none hf k s hs ⟨h3, h5⟩
/-- What is left of a row when it is needed once less. -/
def Rw.less (r : Rw) : Rw := if r.refs = 1 then .z else ⟨r.lab, r.refs - 1⟩
theorem Right.less {l : List Rw} (h : Right l) {i : Nat} {r : Rw} (hi : l[i]? = some r) (h0 : r.refs ≠ 0) : Right (l.set i r.less) := by
  have hlt : i < l.length := (List.getElem?_eq_some_iff.1 hi).1
  have h1 := fits_lo (h.fits i r hi)
  have h2 := fits_hi (h.fits i r hi)
  refine h.set (by rw [← h.len]; exact hlt) ?_ fun k s hk hs h3 h4 h5 => ?_
  · unfold Rw.less
    split
    · rfl
    · exact fits_mk (by show 0 < r.refs - 1; omega) (by show r.refs - 1 ≤ 65535; omega)
  · unfold Rw.less at h4 h5
    split at h4
    · exact h4 rfl
    · rename_i h6
      rw [if_neg h6] at h5
      exact hk (h.one k i s r hs hi h3 h0 h5)
/-- Whether rows are valid. -/
noncomputable def rightB (l : List Rw) : Bool := @decide (Right l) (Classical.propDecidable _)
theorem rightB_yes {l : List Rw} (h : Right l) : rightB l = true := by unfold rightB; exact @decide_eq_true _ (Classical.propDecidable _) h
theorem rightB_no {l : List Rw} (h : ¬ Right l) : rightB l = false := by unfold rightB; exact @decide_eq_false _ (Classical.propDecidable _) h
theorem rightB_size {l : List Rw} (h : l.length ≠ 16) : rightB l = false := rightB_no fun h' => h h'.len

/-- What Find tells. -/
noncomputable def fndP (l : List Rw) (a : Nat) : Option Nat := if rightB l then fnd l a else none
theorem fndP_yes {l : List Rw} (h : Right l) (a : Nat) : fndP l a = fnd l a := by unfold fndP; rw [rightB_yes h]; rfl
theorem fndP_no {l : List Rw} (h : ¬ Right l) (a : Nat) : fndP l a = none := by unfold fndP; rw [rightB_no h]; rfl
def fndV (o : Option Nat) : Value := .tuple #[.int .i64 ((o.getD 0 : Nat) : Int), .bool o.isSome]

/-- What Retain and Release hand back: rows, a place, an error. -/
structure Res where
  rows : List Rw
  at_ : Nat
  err : Nat
def Res.bad (e : Nat) : Res := ⟨[], 0, e⟩
noncomputable def retP (l : List Rw) (a : Nat) : Res :=
  if rightB l then
    match fnd l a with
    | some i => if (l.getD i .z).refs = 65535 then .bad 4 else ⟨l.set i ⟨a, (l.getD i .z).refs + 1⟩, i, 0⟩
    | none =>
      match freeAt l with
      | some i => ⟨l.set i ⟨a, 1⟩, i, 0⟩
      | none => .bad 5
  else .bad 1
theorem getD_at {l : List Rw} {i : Nat} {r : Rw} (h : l[i]? = some r) : l.getD i .z = r := by rw [List.getD_eq_getElem?_getD, h]; rfl
theorem retP_no {l : List Rw} (h : ¬ Right l) (a : Nat) : retP l a = .bad 1 := by unfold retP; rw [rightB_no h]; rfl
theorem retP_long {l : List Rw} (h : Right l) {a i : Nat} {r : Rw} (hf : fnd l a = some i) (hi : l[i]? = some r) (hr : r.refs = 65535) : retP l a = .bad 4 := by
  unfold retP; rw [rightB_yes h, hf]; simp only [if_true, getD_at hi, hr]
theorem retP_more {l : List Rw} (h : Right l) {a i : Nat} {r : Rw} (hf : fnd l a = some i) (hi : l[i]? = some r) (hr : r.refs ≠ 65535) : retP l a = ⟨l.set i ⟨a, r.refs + 1⟩, i, 0⟩ := by
  unfold retP; rw [rightB_yes h, hf]; simp only [if_true, getD_at hi, hr, if_false]
theorem retP_new {l : List Rw} (h : Right l) {a i : Nat} (hf : fnd l a = none) (hi : freeAt l = some i) : retP l a = ⟨l.set i ⟨a, 1⟩, i, 0⟩ := by
  unfold retP; rw [rightB_yes h, hf, hi]; rfl
theorem retP_full {l : List Rw} (h : Right l) {a : Nat} (hf : fnd l a = none) (hi : freeAt l = none) : retP l a = .bad 5 := by
  unfold retP; rw [rightB_yes h, hf, hi]; rfl

noncomputable def relP (l : List Rw) (row : Int) : Res :=
  if rightB l && decide (0 ≤ row) && decide (row < 16) then
    if (l.getD row.toNat .z).refs = 0 then .bad 2 else ⟨l.set row.toNat (l.getD row.toNat .z).less, 0, 0⟩
  else .bad 1
theorem relP_no {l : List Rw} (h : ¬ Right l) (row : Int) : relP l row = .bad 1 := by unfold relP; rw [rightB_no h]; rfl
theorem relP_out {l : List Rw} {row : Int} (h : ¬ (0 ≤ row ∧ row < 16)) : relP l row = .bad 1 := by
  unfold relP
  rw [if_neg]
  simp
  omega
theorem relP_free {l : List Rw} (h : Right l) {i : Nat} {r : Rw} (hi : l[i]? = some r) (h0 : r.refs = 0) : relP l (i : Int) = .bad 2 := by
  have hlt : i < l.length := (List.getElem?_eq_some_iff.1 hi).1
  rw [h.len] at hlt
  have e : ((i : Int).toNat) = i := Int.toNat_natCast i
  unfold relP
  rw [if_pos (by rw [rightB_yes h]; simp; omega), e, getD_at hi, if_pos h0]
theorem relP_yes {l : List Rw} (h : Right l) {i : Nat} {r : Rw} (hi : l[i]? = some r) (h0 : r.refs ≠ 0) : relP l (i : Int) = ⟨l.set i r.less, 0, 0⟩ := by
  have hlt : i < l.length := (List.getElem?_eq_some_iff.1 hi).1
  rw [h.len] at hlt
  have e : ((i : Int).toNat) = i := Int.toNat_natCast i
  unfold relP
  rw [if_pos (by rw [rightB_yes h]; simp; omega), e, getD_at hi, if_neg h0]
end Go.Proofs.Ytdecllllcoflbaa.Intern
