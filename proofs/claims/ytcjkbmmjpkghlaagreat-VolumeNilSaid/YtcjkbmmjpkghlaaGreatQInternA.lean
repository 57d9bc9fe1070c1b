/-
  Rows of labels on paper: which are valid, a label's row, a row more and a row less; how rows lie in memory.
-/
import Derived.Test.YtcjkbmmjpkghlaaGreatQF
import Derived.Deep.WholeRow
import Derived.Laws.OwnMore
namespace Go.Proofs.YtcjkbmmjpkghlaaGreat.Intern
open Go.RowKit

/-- A row: its label, and how often it is needed. -/
structure Rw where
  lab : Nat
  refs : Int
/-- A free one. -/
def Rw.z : Rw := ⟨0, 0⟩
def Rw.cells (r : Rw) : List Value := [.int .u16 (r.lab : Int), .int .i64 r.refs]
def Rw.val (r : Rw) : Value := .agg #[.int .u16 (r.lab : Int), .int .i64 r.refs]
structure Rw.Ok (r : Rw) : Prop where
  lab : r.lab < 65536
  lo : -9223372036854775808 ≤ r.refs
  hi : r.refs ≤ 9223372036854775807
def Oks (l : List Rw) : Prop := ∀ r ∈ l, r.Ok

/-- The cells of rows, one behind the other. -/
def rowsV : List Rw → List Value
  | [] => []
  | r :: l => .int .u16 (r.lab : Int) :: .int .i64 r.refs :: rowsV l
theorem length_rowsV (l : List Rw) : (rowsV l).length = l.length * 2 := by
  induction l with
  | nil => rfl
  | cons r l ih => simp [rowsV, ih]; omega
theorem rowsV_append (l m : List Rw) : rowsV (l ++ m) = rowsV l ++ rowsV m := by
  induction l with
  | nil => rfl
  | cons r l ih => simp [rowsV, ih]
theorem rowsV_get : ∀ (l : List Rw) (i : Nat) (r : Rw), l[i]? = some r → (rowsV l)[i * 2]? = some (.int .u16 (r.lab : Int)) ∧ (rowsV l)[i * 2 + 1]? = some (.int .i64 r.refs)
  | [], i, r, h => by simp at h
  | s :: l, 0, r, h => by
    obtain rfl : s = r := by simpa using h
    exact ⟨rfl, rfl⟩
  | s :: l, i + 1, r, h => by
    have := rowsV_get l i r (by simpa using h)
    have e : (i + 1) * 2 = i * 2 + 1 + 1 := by omega
    rw [e]
    exact this
theorem rowsV_set : ∀ (l : List Rw) (i : Nat) (r : Rw), i < l.length → rowsV (l.set i r) = ((rowsV l).set (i * 2) (.int .u16 (r.lab : Int))).set (i * 2 + 1) (.int .i64 r.refs)
  | [], i, r, h => by simp at h
  | s :: l, 0, r, h => rfl
  | s :: l, i + 1, r, h => by
    have := rowsV_set l i r (by simpa using h)
    have e : (i + 1) * 2 = i * 2 + 1 + 1 := by omega
    rw [e]
    simp only [List.set_cons_succ, rowsV, this]
theorem rowsV_one (l : List Rw) : ∀ u ∈ rowsV l, u.oneCell' = true := by
  induction l with
  | nil => simp [rowsV]
  | cons r l ih =>
    intro u hu
    simp only [rowsV, List.mem_cons] at hu
    rcases hu with rfl | rfl | hu
    · rfl
    · rfl
    · exact ih u hu
theorem rowsV_take (l : List Rw) (k : Nat) : rowsV (l.take k) = (rowsV l).take (k * 2) := by
  induction l generalizing k with
  | nil => simp [rowsV]
  | cons r l ih =>
    cases k with
    | zero => simp [rowsV]
    | succ k =>
      have e : (k + 1) * 2 = k * 2 + 1 + 1 := by omega
      rw [e]
      simp [rowsV, ih]
theorem rowsV_inj : ∀ {l m : List Rw}, rowsV l = rowsV m → l = m
  | [], [], _ => rfl
  | [], _ :: _, h => by simp [rowsV] at h
  | _ :: _, [], h => by simp [rowsV] at h
  | r :: l, s :: m, h => by
    simp only [rowsV, List.cons.injEq, Value.int.injEq, true_and] at h
    obtain ⟨h1, h2, h3⟩ := h
    have e1 : r.lab = s.lab := by omega
    obtain rfl : r = s := by cases r; cases s; simp_all
    rw [rowsV_inj h3]

/-- A row as it is read. -/
theorem rd_row {w : World} {B : Nat} {A : Option Addr} {l : List Rw} (h : Rd w B A (rowsV l)) {i : Nat} {r : Rw} (hi : l[i]? = some r) :
    ∃ b o, A = some ⟨b, o, none⟩ ∧ b < B ∧ w.cell? ⟨b, o + i * 2, none⟩ = some (.int .u16 (r.lab : Int)) ∧ w.cell? ⟨b, o + i * 2 + 1, none⟩ = some (.int .i64 r.refs) := by
  obtain ⟨h1, h2⟩ := rowsV_get l i r hi
  rcases h with h | ⟨b, o, h3, h4, h5⟩
  · rw [h] at h1; simp at h1
  · exact ⟨b, o, h3, h4, by rw [h5 _ _ h1], by rw [Nat.add_assoc, h5 _ _ h2]⟩
theorem rd_rows {w : World} {B : Nat} {A : Option Addr} {l : List Rw} (h : Rd w B A (rowsV l)) : l = [] ∨ ∃ b o, A = some ⟨b, o, none⟩ ∧ b < B ∧ ∀ (i : Nat) r, l[i]? = some r → w.cell? ⟨b, o + i * 2, none⟩ = some (.int .u16 (r.lab : Int)) ∧ w.cell? ⟨b, o + i * 2 + 1, none⟩ = some (.int .i64 r.refs) := by
  cases l with
  | nil => exact .inl rfl
  | cons r l =>
    obtain ⟨b, o, rfl, hb, _⟩ := rd_row h (i := 0) (r := r) rfl
    refine .inr ⟨b, o, rfl, hb, fun i s hi => ?_⟩
    obtain ⟨b', o', h1, _, h2⟩ := rd_row h hi
    cases h1
    exact h2

/-- An own row of rows, read. -/
theorem own_rows {w : World} {base : Nat} {v : Value} {l : List Rw} (h : w.ownsRow base 68 2 v l.length (rowsV l)) :
    ∃ A c, v = .slice A l.length c ∧ l.length ≤ c ∧ c ≤ maxLen ∧ Rd w w.heap.size A (rowsV l) := by
  rcases h.2 with ⟨rfl, h0⟩ | ⟨g, cap, cur, rfl, hb, hg, h1, h2, h3, h4⟩
  · have : l = [] := List.eq_nil_of_length_eq_zero h0
    subst this
    exact ⟨none, 0, rfl, Nat.le_refl _, Nat.zero_le _, .inl rfl⟩
  · refine ⟨_, cap, rfl, h1, h2, .inr ⟨g, 0, rfl, ?_, fun j u hu => ?_⟩⟩
    · rcases Nat.lt_or_ge g w.heap.size with hlt | hge
      · exact hlt
      · rw [Array.getElem?_eq_none hge] at hg; cases hg
    · have hj : j < l.length * 2 := by
        have := (List.getElem?_eq_some_iff.1 hu).1
        rw [length_rowsV] at this
        exact this
      rw [Nat.zero_add, h.cellAt j hj, hu]

def free (r : Rw) : Bool := r.refs == 0
def hasL (a : Nat) (r : Rw) : Bool := !(r.refs == 0) && r.lab == a
def fits (r : Rw) : Bool := if r.refs = 0 then r.lab == 0 else decide (0 < r.refs) && decide (r.refs ≤ 65535)

/-- Valid rows. -/
structure Right (l : List Rw) : Prop where
  len : l.length = 16
  fits : ∀ (i : Nat) r, l[i]? = some r → fits r = true
  one : ∀ (i k : Nat) r s, l[i]? = some r → l[k]? = some s → r.refs ≠ 0 → s.refs ≠ 0 → r.lab = s.lab → i = k

theorem fits_lo {r : Rw} (h : fits r = true) : 0 ≤ r.refs := by
  unfold Intern.fits at h
  split at h
  · omega
  · simp at h; omega
theorem fits_hi {r : Rw} (h : fits r = true) : r.refs ≤ 65535 := by
  unfold Intern.fits at h
  split at h
  · omega
  · simp at h; omega
theorem fits_free {r : Rw} (h : fits r = true) (h0 : r.refs = 0) : r.lab = 0 := by
  unfold Intern.fits at h
  rw [if_pos h0] at h
  simpa using h
theorem fits_mk {r : Rw} (h1 : 0 < r.refs) (h2 : r.refs ≤ 65535) : fits r = true := by
  unfold Intern.fits
  rw [if_neg (by omega)]
  simp [h1, h2]

/-- A label's row. -/
def fnd (l : List Rw) (a : Nat) : Option Nat := l.findIdx? (hasL a)
theorem fnd_some {l : List Rw} {a i : Nat} (h : fnd l a = some i) : ∃ r, l[i]? = some r ∧ r.refs ≠ 0 ∧ r.lab = a ∧ ∀ k s, k < i → l[k]? = some s → ¬ (s.refs ≠ 0 ∧ s.lab = a) := by
  obtain ⟨hi, h1, h2⟩ := List.findIdx?_eq_some_iff_getElem.1 h
  refine ⟨l[i], List.getElem?_eq_getElem hi, ?_, ?_, fun k s hk hs => ?_⟩
  · intro h0; simp [hasL, h0] at h1
  · simp [hasL] at h1; exact h1.2
  · obtain ⟨hk', rfl⟩ := List.getElem?_eq_some_iff.1 hs
    have := h2 k hk
    simp [hasL] at this
    intro ⟨h3, h4⟩
    exact this h3 h4
theorem fnd_none {l : List Rw} {a : Nat} (h : fnd l a = none) : ∀ (k : Nat) s, l[k]? = some s → ¬ (s.refs ≠ 0 ∧ s.lab = a) := by
  intro k s hs ⟨h1, h2⟩
  have := List.findIdx?_eq_none_iff.1 h s (List.mem_of_getElem? hs)
  simp [hasL] at this
  exact this h1 h2
theorem fnd_mk {l : List Rw} {a i : Nat} {r : Rw} (h : l[i]? = some r) (h0 : r.refs ≠ 0) (ha : r.lab = a) (hk : ∀ (k : Nat) s, k < i → l[k]? = some s → ¬ (s.refs ≠ 0 ∧ s.lab = a)) : fnd l a = some i := by
  obtain ⟨hi, rfl⟩ := List.getElem?_eq_some_iff.1 h
  refine List.findIdx?_eq_some_iff_getElem.2 ⟨hi, by simp [hasL, h0, ha], fun k hk' => ?_⟩
  have := hk k _ hk' (List.getElem?_eq_getElem (by omega))
  simp [hasL]
  intro h1 h2
  exact this ⟨h1, h2⟩
theorem Right.fnd_at {l : List Rw} (h : Right l) {i : Nat} {r : Rw} (hi : l[i]? = some r) (h0 : r.refs ≠ 0) : fnd l r.lab = some i :=
  fnd_mk hi h0 rfl fun k s hk hs ⟨h1, h2⟩ => by
    have := h.one k i s r hs hi h1 h0 h2
    omega
/-- A row that is not in order, as the program looks for it: it, or the first one with its label. -/
def Good (l : List Rw) (i : Nat) (r : Rw) : Prop := fits r = true ∧ (r.refs = 0 ∨ fnd l r.lab = some i)
theorem right_of_good {l : List Rw} (hl : l.length = 16) (h : ∀ (i : Nat) r, l[i]? = some r → Good l i r) : Right l := by
  refine ⟨hl, fun i r hi => (h i r hi).1, fun i k r s hi hk h1 h2 h3 => ?_⟩
  rcases (h i r hi).2 with h4 | h4
  · exact absurd h4 h1
  rcases (h k s hk).2 with h5 | h5
  · exact absurd h5 h2
  rw [h3, h5] at h4
  injection h4 with h4
  exact h4.symm
theorem Right.good {l : List Rw} (h : Right l) {i : Nat} {r : Rw} (hi : l[i]? = some r) : Good l i r := by
  refine ⟨h.fits i r hi, ?_⟩
  by_cases h0 : r.refs = 0
  · exact .inl h0
  · exact .inr (h.fnd_at hi h0)

/-- Two rows that may not both be there. -/
def clash (r s : Rw) : Prop := 0 < r.refs ∧ 0 < s.refs ∧ r.lab = s.lab
theorem right_of_pairs {l : List Rw} (hl : l.length = 16) (h : ∀ (i : Nat) r, l[i]? = some r → fits r = true ∧ ∀ (k : Nat) s, k < i → l[k]? = some s → ¬ clash r s) : Right l := by
  have h0 : ∀ (i : Nat) r, l[i]? = some r → r.refs ≠ 0 → 0 < r.refs := fun i r hi h0 => by have := fits_lo (h i r hi).1; omega
  refine ⟨hl, fun i r hi => (h i r hi).1, fun i k r s hi hk h1 h2 h3 => ?_⟩
  rcases Nat.lt_trichotomy i k with hlt | he | hlt
  · exact absurd ⟨h0 k s hk h2, h0 i r hi h1, h3.symm⟩ ((h k s hk).2 i r hlt hi)
  · exact he
  · exact absurd ⟨h0 i r hi h1, h0 k s hk h2, h3⟩ ((h i r hi).2 k s hlt hk)
theorem Right.pairs {l : List Rw} (h : Right l) {i k : Nat} {r s : Rw} (hi : l[i]? = some r) (hk : l[k]? = some s) (hlt : k < i) : ¬ clash r s := fun ⟨h1, h2, h3⟩ => by
  have := h.one i k r s hi hk (by omega) (by omega) h3
  omega

theorem Right.set {l : List Rw} (h : Right l) {i : Nat} {r : Rw} (hi : i < 16) (hr : Intern.fits r = true) (ho : ∀ (k : Nat) s, k ≠ i → l[k]? = some s → s.refs ≠ 0 → r.refs ≠ 0 → s.lab ≠ r.lab) : Right (l.set i r) := by
  have hl := h.len
  have hget : ∀ (k : Nat) s, (l.set i r)[k]? = some s → (k = i ∧ s = r) ∨ (k ≠ i ∧ l[k]? = some s) := fun k s hk => by
    rw [List.getElem?_set] at hk
    split at hk
    · rename_i e
      rw [if_pos (by omega)] at hk
      injection hk with hk
      exact .inl ⟨e.symm, hk.symm⟩
    · rename_i e
      exact .inr ⟨fun e' => e e'.symm, hk⟩
  refine ⟨by simpa using hl, fun k s hk => ?_, fun k m s t hk hm h1 h2 h3 => ?_⟩
  · rcases hget k s hk with ⟨_, rfl⟩ | ⟨_, hk'⟩
    · exact hr
    · exact h.fits k s hk'
  · rcases hget k s hk with ⟨rfl, rfl⟩ | ⟨hki, hk'⟩ <;> rcases hget m t hm with ⟨rfl, rfl⟩ | ⟨hmi, hm'⟩
    · rfl
    · exact absurd h3.symm (ho m t hmi hm' h2 h1)
    · exact absurd h3 (ho k s hki hk' h1 h2)
    · exact h.one k m s t hk' hm' h1 h2 h3
/-- A free row's place. -/
def freeAt (l : List Rw) : Option Nat := l.findIdx? free
theorem freeAt_some {l : List Rw} {i : Nat} (h : freeAt l = some i) : ∃ r, l[i]? = some r ∧ r.refs = 0 ∧ ∀ (k : Nat) s, k < i → l[k]? = some s → s.refs ≠ 0 := by
  obtain ⟨hi, h1, h2⟩ := List.findIdx?_eq_some_iff_getElem.1 h
  refine ⟨l[i], List.getElem?_eq_getElem hi, by simpa [free] using h1, fun k s hk hs => ?_⟩
  obtain ⟨hk', rfl⟩ := List.getElem?_eq_some_iff.1 hs
  simpa [free] using h2 k hk
theorem freeAt_none {l : List Rw} (h : freeAt l = none) : ∀ (k : Nat) s, l[k]? = some s → s.refs ≠ 0 := by
  intro k s hs
  have := List.findIdx?_eq_none_iff.1 h s (List.mem_of_getElem? hs)
  simpa [free] using this

/-- A label more in its row. -/
theorem Right.more {l : List Rw} (h : Right l) {a i : Nat} {r : Rw} (hf : fnd l a = some i) (hi : l[i]? = some r) (hr : r.refs ≠ 65535) : Right (l.set i ⟨r.lab, r.refs + 1⟩) := by
  obtain ⟨r', hi', h0, ha, _⟩ := fnd_some hf
  rw [hi] at hi'
  injection hi' with hi'
  subst hi'
  have hlt : i < l.length := (List.getElem?_eq_some_iff.1 hi).1
  have h1 := fits_lo (h.fits i r hi)
  have h2 := fits_hi (h.fits i r hi)
  refine h.set (by rw [← h.len]; exact hlt) (fits_mk (by show 0 < r.refs + 1; omega) (by show r.refs + 1 ≤ 65535; omega)) fun k s hk hs h3 _ h5 => ?_
  exact hk (h.one k i s r hs hi h3 h0 h5)
/-- A label in a free row. -/
theorem Right.new {l : List Rw} (h : Right l) {a i : Nat} (hf : fnd l a = none) (hi : freeAt l = some i) : Right (l.set i ⟨a, 1⟩) := by
  obtain ⟨r, hi', h0, _⟩ := freeAt_some hi
  have hlt : i < l.length := (List.getElem?_eq_some_iff.1 hi').1
  exact h.set (by rw [← h.len]; exact hlt) (fits_mk (by show (0 : Int) < 1; omega) (by show (1 : Int) ≤ 65535; omega)) fun k s hk hs h3 _ h5 => fnd_none hf k s hs ⟨h3, h5⟩
/-- What is left of a row when it is needed once less. -/
def Rw.less (r : Rw) : Rw := if r.refs = 1 then .z else ⟨r.lab, r.refs - 1⟩
theorem Right.less {l : List Rw} (h : Right l) {i : Nat} {r : Rw} (hi : l[i]? = some r) (h0 : r.refs ≠ 0) : Right (l.set i r.less) := by
  have hlt : i < l.length := (List.getElem?_eq_some_iff.1 hi).1
  have h1 := fits_lo (h.fits i r hi)
  have h2 := fits_hi (h.fits i r hi)
  refine h.set (by rw [← h.len]; exact hlt) ?_ fun k s hk hs h3 h4 h5 => ?_
  · unfold Rw.less
    split
    · rfl
    · exact fits_mk (by show 0 < r.refs - 1; omega) (by show r.refs - 1 ≤ 65535; omega)
  · unfold Rw.less at h4 h5
    split at h4
    · exact h4 rfl
    · rename_i h6
      rw [if_neg h6] at h5
      exact hk (h.one k i s r hs hi h3 h0 h5)
/-- Whether rows are valid. -/
noncomputable def rightB (l : List Rw) : Bool := @decide (Right l) (Classical.propDecidable _)
theorem rightB_yes {l : List Rw} (h : Right l) : rightB l = true := by unfold rightB; exact @decide_eq_true _ (Classical.propDecidable _) h
theorem rightB_no {l : List Rw} (h : ¬ Right l) : rightB l = false := by unfold rightB; exact @decide_eq_false _ (Classical.propDecidable _) h
theorem rightB_size {l : List Rw} (h : l.length ≠ 16) : rightB l = false := rightB_no fun h' => h h'.len

/-- What Find tells. -/
noncomputable def fndP (l : List Rw) (a : Nat) : Option Nat := if rightB l then fnd l a else none
theorem fndP_yes {l : List Rw} (h : Right l) (a : Nat) : fndP l a = fnd l a := by unfold fndP; rw [rightB_yes h]; rfl
theorem fndP_no {l : List Rw} (h : ¬ Right l) (a : Nat) : fndP l a = none := by unfold fndP; rw [rightB_no h]; rfl
def fndV (o : Option Nat) : Value := .tuple #[.int .i64 ((o.getD 0 : Nat) : Int), .bool o.isSome]

/-- What Retain and Release hand back: rows, a place, an error. -/
structure Res where
  rows : List Rw
  at_ : Nat
  err : Nat
def Res.bad (e : Nat) : Res := ⟨[], 0, e⟩
noncomputable def retP (l : List Rw) (a : Nat) : Res :=
  if rightB l then
    match fnd l a with
    | some i => if (l.getD i .z).refs = 65535 then .bad 4 else ⟨l.set i ⟨a, (l.getD i .z).refs + 1⟩, i, 0⟩
    | none =>
      match freeAt l with
      | some i => ⟨l.set i ⟨a, 1⟩, i, 0⟩
      | none => .bad 5
  else .bad 1
theorem getD_at {l : List Rw} {i : Nat} {r : Rw} (h : l[i]? = some r) : l.getD i .z = r := by rw [List.getD_eq_getElem?_getD, h]; rfl
theorem retP_no {l : List Rw} (h : ¬ Right l) (a : Nat) : retP l a = .bad 1 := by unfold retP; rw [rightB_no h]; rfl
theorem retP_long {l : List Rw} (h : Right l) {a i : Nat} {r : Rw} (hf : fnd l a = some i) (hi : l[i]? = some r) (hr : r.refs = 65535) : retP l a = .bad 4 := by
  unfold retP; rw [rightB_yes h, hf]; simp only [if_true, getD_at hi, hr]
theorem retP_more {l : List Rw} (h : Right l) {a i : Nat} {r : Rw} (hf : fnd l a = some i) (hi : l[i]? = some r) (hr : r.refs ≠ 65535) : retP l a = ⟨l.set i ⟨a, r.refs + 1⟩, i, 0⟩ := by
  unfold retP; rw [rightB_yes h, hf]; simp only [if_true, getD_at hi, hr, if_false]
theorem retP_new {l : List Rw} (h : Right l) {a i : Nat} (hf : fnd l a = none) (hi : freeAt l = some i) : retP l a = ⟨l.set i ⟨a, 1⟩, i, 0⟩ := by
  unfold retP; rw [rightB_yes h, hf, hi]; rfl
theorem retP_full {l : List Rw} (h : Right l) {a : Nat} (hf : fnd l a = none) (hi : freeAt l = none) : retP l a = .bad 5 := by
  unfold retP; rw [rightB_yes h, hf, hi]; rfl

noncomputable def relP (l : List Rw) (row : Int) : Res :=
  if rightB l && decide (0 ≤ row) && decide (row < 16) then
    if (l.getD row.toNat .z).refs = 0 then .bad 2 else ⟨l.set row.toNat (l.getD row.toNat .z).less, 0, 0⟩
  else .bad 1
theorem relP_no {l : List Rw} (h : ¬ Right l) (row : Int) : relP l row = .bad 1 := by unfold relP; rw [rightB_no h]; rfl
theorem relP_out {l : List Rw} {row : Int} (h : ¬ (0 ≤ row ∧ row < 16)) : relP l row = .bad 1 := by
  unfold relP
  rw [if_neg]
  simp
  omega
theorem relP_free {l : List Rw} (h : Right l) {i : Nat} {r : Rw} (hi : l[i]? = some r) (h0 : r.refs = 0) : relP l (i : Int) = .bad 2 := by
  have hlt : i < l.length := (List.getElem?_eq_some_iff.1 hi).1
  rw [h.len] at hlt
  have e : ((i : Int).toNat) = i := Int.toNat_natCast i
  unfold relP
  rw [if_pos (by rw [rightB_yes h]; simp; omega), e, getD_at hi, if_pos h0]
theorem relP_yes {l : List Rw} (h : Right l) {i : Nat} {r : Rw} (hi : l[i]? = some r) (h0 : r.refs ≠ 0) : relP l (i : Int) = ⟨l.set i r.less, 0, 0⟩ := by
  have hlt : i < l.length := (List.getElem?_eq_some_iff.1 hi).1
  rw [h.len] at hlt
  have e : ((i : Int).toNat) = i := Int.toNat_natCast i
  unfold relP
  rw [if_pos (by rw [rightB_yes h]; simp; omega), e, getD_at hi, if_neg h0]
end Go.Proofs.YtcjkbmmjpkghlaaGreat.Intern

/-
  Package intern's small functions: whether a row is free, whether it fits, the function that looks for a label, and the library's search.
-/
namespace Go.Proofs.YtcjkbmmjpkghlaaGreat.Intern
open Go.RowKit

theorem below_drewN {B : Nat} {a w : World} (h : Below B a w) (q : Nat) : Below B a (w.drewN q) := ⟨h.os, h.tape, h.output, h.size, h.block⟩
/-- The block of a row that was boxed. -/
def rowB (a : Nat) (x : Int) : Obj := .cells #[.int .u16 (a : Int), .int .i64 x] 68
theorem alloc_below (w : World) (o : Obj) : Below w.heap.size w (w.alloc o) := (Below.refl _ w).alloc (Nat.le_refl _) _

theorem isFree_any (a : Nat) (x : Int) (w : World) :
    Calls Tryz.prog 80 #[.agg #[.int .u16 (a : Int), .int .i64 x]] w fun e w' => e = .returned (.bool (x == 0)) ∧ w' = w.alloc (.cells #[.int .u16 (a : Int), .int .i64 x] 68) := by
  go_enter Tryz.func80, Tryz.ntmps80
  go_wp2
  go_ret
  exact ⟨rfl, rfl⟩

theorem ret_bool {a b : Bool} (h : a = b) : Ending.returned (.bool a) = .returned (.bool b) := by rw [h]
theorem ret_int {a b : Int} (h : a = b) : Ending.returned (.int .i64 a) = .returned (.int .i64 b) := by rw [h]
theorem beq_cast (a b : Nat) : ((a : Int) == (b : Int)) = (a == b) := by
  rw [Bool.eq_iff_iff, beq_iff_eq, beq_iff_eq]; omega

theorem fits_row (a : Nat) (x : Int) (w : World) :
    Calls Tryz.prog 79 #[.agg #[.int .u16 (a : Int), .int .i64 x]] w fun e w' => e = .returned (.bool (fits ⟨a, x⟩)) ∧ Below w.heap.size w w' := by
  have hB : Below w.heap.size w ((w.alloc (.cells #[.int .u16 (a : Int), .int .i64 x] 68)).alloc (.cells #[.int .u16 (a : Int), .int .i64 x] 68)) := (alloc_below w _).alloc (by simp) _
  have HB := Lib.hid hB
  clear hB
  by_cases h0 : x = 0
  · subst h0
    have hb : ((0 : Int) == 0) = true := rfl
    go_enter Tryz.func79, Tryz.ntmps79
    go_wp2_with (go_at_call 80; refine (isFree_any a 0 _).mono ?_; rintro e w' ⟨rfl, rfl⟩)
    go_ret
    exact ⟨ret_bool (by unfold fits; exact beq_cast a 0), HB.out⟩
  · have hb : (x == 0) = false := by simp [h0]
    by_cases h1 : 0 < x
    · go_enter Tryz.func79, Tryz.ntmps79
      go_wp2_with (go_at_call 80; refine (isFree_any a x _).mono ?_; rintro e w' ⟨rfl, rfl⟩)
      go_ret
      exact ⟨ret_bool (by unfold fits; simp [h0, h1]), HB.out⟩
    · go_enter Tryz.func79, Tryz.ntmps79
      go_wp2_with (go_at_call 80; refine (isFree_any a x _).mono ?_; rintro e w' ⟨rfl, rfl⟩)
      go_ret
      exact ⟨ret_bool (by unfold fits; simp [h0]; omega), HB.out⟩

theorem has_any (a : Nat) (w : World) :
    Calls Tryz.prog 82 #[.int .u16 (a : Int)] w fun e w' => e = .returned (.func (.func 140) #[] #[.pointer (some ⟨w.heap.size, 0, none⟩)]) ∧ w' = w.alloc (.cells #[.int .u16 (a : Int)] 36) := by
  go_enter Tryz.func82, Tryz.ntmps82
  go_wp2
  go_ret
  exact ⟨rfl, rfl⟩

theorem hasL_any (a b : Nat) (x : Int) (g : Nat) (w : World) (hc : w.cell? ⟨g, 0, none⟩ = some (.int .u16 (a : Int))) (hg : g < w.heap.size) :
    Calls Tryz.prog 140 #[.agg #[.int .u16 (b : Int), .int .i64 x], .pointer (some ⟨g, 0, none⟩)] w fun e w' => e = .returned (.bool (hasL a ⟨b, x⟩)) ∧ Below w.heap.size w w' := by
  have hB : Below w.heap.size w ((w.alloc (.cells #[.int .u16 (b : Int), .int .i64 x] 68)).alloc (.cells #[.int .u16 (b : Int), .int .i64 x] 68)) := (alloc_below w _).alloc (by simp) _
  have HB := Lib.hid hB
  clear hB
  by_cases h0 : x = 0
  · subst h0
    have hb : ((0 : Int) == 0) = true := rfl
    go_enter Tryz.func140, Tryz.ntmps140
    go_wp2_with (go_at_call 80; refine (isFree_any b 0 _).mono ?_; rintro e w' ⟨rfl, rfl⟩)
    go_ret
    exact ⟨rfl, HB.out⟩
  · have hb : (x == 0) = false := by simp [h0]
    go_enter Tryz.func140, Tryz.ntmps140
    go_wp2_with (go_at_call 80; refine (isFree_any b x _).mono ?_; rintro e w' ⟨rfl, rfl⟩)
    go_ret
    exact ⟨ret_bool (by unfold hasL; rw [beq_cast]; simp [h0]), HB.out⟩

/-- A place as an int: -1 where there is none. -/
def placeI : Option Nat → Int
  | none => -1
  | some i => (i : Int)

set_option maxHeartbeats 400000 in
theorem index_has (l : List Rw) (A : Option Addr) (n c : Nat) (w : World) (a g : Nat) (hc : w.cell? ⟨g, 0, none⟩ = some (.int .u16 (a : Int))) (hg : g < w.heap.size) (hn : l.length = n) (hr : Rd w w.heap.size A (rowsV l)) (hm : n ≤ 9223372036854775807) :
    Calls Tryz.prog 81 #[.slice A n c, .func (.func 140) #[] #[.pointer (some ⟨g, 0, none⟩)]] w fun e w' => e = .returned (.int .i64 (placeI (l.findIdx? (hasL a)))) ∧ Below w.heap.size w w' := by
  have Hn := Lib.hid hn
  have Hr := Lib.hid hr
  clear hn hr
  have HC := Lib.hid hc
  clear hc
  go_enter Tryz.func81, Tryz.ntmps81
  go_wp2
  go_loopw [5, 8] (fun _ i wr => ∃ j : Nat, j ≤ n ∧ i = .int .i64 (j : Int) ∧ Hid (∀ (k : Nat) s, k < j → l[k]? = some s → hasL a s = false) ∧ Below w.heap.size w wr) (fun _ i _ => n - (intOf i).toNat)
  case atStart => exact ⟨0, Nat.zero_le _, rfl, Lib.hid (fun k s hk => by omega), Below.refl _ _⟩
  case round =>
    obtain ⟨j, hj, rfl, Hf, hb⟩ := hrel
    have Hb := Lib.hid hb
    clear hb
    by_cases hlt : j < n
    · obtain ⟨⟨b, x⟩, hrj⟩ : ∃ r, l[j]? = some r := ⟨_, List.getElem?_eq_getElem (by rw [Hn.out]; exact hlt)⟩
      obtain ⟨B, o, rfl, hB, hc0, hc1⟩ := rd_row (Hr.out.below Hb.out) hrj
      have HR := Lib.hid hrj
      have hs := Nat.lt_of_lt_of_le hB Hb.out.size
      clear hrj hB
      cases hp : hasL a ⟨b, x⟩ with
      | false =>
        have Hnext : Hid (∀ (k : Nat) s, k < j + 1 → l[k]? = some s → hasL a s = false) := Lib.hid fun k s hk hs => by
          by_cases e : k = j
          · subst e
            rw [HR.out] at hs
            injection hs with hs
            rw [← hs]; exact hp
          · exact Hf.out k s (by omega) hs
        have hq : hasL a ⟨b, x⟩ = false := hp
        clear hp
        go_wp2_with (go_at_call 140; refine (hasL_any a _ _ g _ ((Hb.out.cell hg).trans HC.out) (Nat.lt_of_lt_of_le hg Hb.out.size)).mono ?_; rintro e w2 ⟨he, hb2⟩; obtain rfl := he; have HB2 := Lib.hid (Hb.out.trans (hb2.mono Hb.out.size)); clear hb2; rw [hq])
        go_roundw
        case rel => exact ⟨j + 1, by omega, by go_num, Hnext, HB2.out⟩
        case measure => simp [intOf]; omega
      | true =>
        have hd : l.findIdx? (hasL a) = some j := by
          obtain ⟨hjl, hjr⟩ := List.getElem?_eq_some_iff.1 HR.out
          refine List.findIdx?_eq_some_iff_getElem.2 ⟨hjl, by rw [hjr]; exact hp, fun k hk => ?_⟩
          have := Hf.out k _ hk (List.getElem?_eq_getElem (by omega))
          simp [this]
        have HD := Lib.hid hd
        have hq : hasL a ⟨b, x⟩ = true := hp
        clear hp hd
        go_wp2_with (go_at_call 140; refine (hasL_any a _ _ g _ ((Hb.out.cell hg).trans HC.out) (Nat.lt_of_lt_of_le hg Hb.out.size)).mono ?_; rintro e w2 ⟨he, hb2⟩; obtain rfl := he; have HB2 := Lib.hid (Hb.out.trans (hb2.mono Hb.out.size)); clear hb2; rw [hq])
        go_ret
        exact ⟨ret_int (by rw [HD.out]; rfl), HB2.out⟩
    · obtain rfl : j = n := by omega
      have hd : l.findIdx? (hasL a) = none := by
        refine List.findIdx?_eq_none_iff.2 fun x hx => ?_
        obtain ⟨k, hk, rfl⟩ := List.getElem_of_mem hx
        exact Hf.out k _ (by rw [← Hn.out]; exact hk) (List.getElem?_eq_getElem hk)
      have HD := Lib.hid hd
      clear hd
      go_wp2
      go_ret
      exact ⟨ret_int (by rw [HD.out]; rfl), Hb.out⟩

set_option maxHeartbeats 400000 in
theorem index_free (l : List Rw) (A : Option Addr) (n c : Nat) (w : World) (hn : l.length = n) (hr : Rd w w.heap.size A (rowsV l)) (hm : n ≤ 9223372036854775807) :
    Calls Tryz.prog 81 #[.slice A n c, .func (.func 80) #[] #[]] w fun e w' => e = .returned (.int .i64 (placeI (l.findIdx? (free)))) ∧ Below w.heap.size w w' := by
  have Hn := Lib.hid hn
  have Hr := Lib.hid hr
  clear hn hr
  go_enter Tryz.func81, Tryz.ntmps81
  go_wp2
  go_loopw [5, 8] (fun _ i wr => ∃ j : Nat, j ≤ n ∧ i = .int .i64 (j : Int) ∧ Hid (∀ (k : Nat) s, k < j → l[k]? = some s → free s = false) ∧ Below w.heap.size w wr) (fun _ i _ => n - (intOf i).toNat)
  case atStart => exact ⟨0, Nat.zero_le _, rfl, Lib.hid (fun k s hk => by omega), Below.refl _ _⟩
  case round =>
    obtain ⟨j, hj, rfl, Hf, hb⟩ := hrel
    have Hb := Lib.hid hb
    clear hb
    by_cases hlt : j < n
    · obtain ⟨⟨b, x⟩, hrj⟩ : ∃ r, l[j]? = some r := ⟨_, List.getElem?_eq_getElem (by rw [Hn.out]; exact hlt)⟩
      obtain ⟨B, o, rfl, hB, hc0, hc1⟩ := rd_row (Hr.out.below Hb.out) hrj
      have HR := Lib.hid hrj
      have hs := Nat.lt_of_lt_of_le hB Hb.out.size
      clear hrj hB
      cases hp : free ⟨b, x⟩ with
      | false =>
        have Hnext : Hid (∀ (k : Nat) s, k < j + 1 → l[k]? = some s → free s = false) := Lib.hid fun k s hk hs => by
          by_cases e : k = j
          · subst e
            rw [HR.out] at hs
            injection hs with hs
            rw [← hs]; exact hp
          · exact Hf.out k s (by omega) hs
        have hq : (x == 0) = false := hp
        clear hp
        go_wp2_with (go_at_call 80; refine (isFree_any _ _ _).mono ?_; rintro e w2 ⟨he, hw2⟩; obtain rfl := he; have HB2 := Lib.hid (by rw [hw2]; exact Hb.out.alloc Hb.out.size _ : Below w.heap.size w w2); clear hw2; rw [hq])
        go_roundw
        case rel => exact ⟨j + 1, by omega, by go_num, Hnext, HB2.out⟩
        case measure => simp [intOf]; omega
      | true =>
        have hd : l.findIdx? (free) = some j := by
          obtain ⟨hjl, hjr⟩ := List.getElem?_eq_some_iff.1 HR.out
          refine List.findIdx?_eq_some_iff_getElem.2 ⟨hjl, by rw [hjr]; exact hp, fun k hk => ?_⟩
          have := Hf.out k _ hk (List.getElem?_eq_getElem (by omega))
          simp [this]
        have HD := Lib.hid hd
        have hq : (x == 0) = true := hp
        clear hp hd
        go_wp2_with (go_at_call 80; refine (isFree_any _ _ _).mono ?_; rintro e w2 ⟨he, hw2⟩; obtain rfl := he; have HB2 := Lib.hid (by rw [hw2]; exact Hb.out.alloc Hb.out.size _ : Below w.heap.size w w2); clear hw2; rw [hq])
        go_ret
        exact ⟨ret_int (by rw [HD.out]; rfl), HB2.out⟩
    · obtain rfl : j = n := by omega
      have hd : l.findIdx? (free) = none := by
        refine List.findIdx?_eq_none_iff.2 fun x hx => ?_
        obtain ⟨k, hk, rfl⟩ := List.getElem_of_mem hx
        exact Hf.out k _ (by rw [← Hn.out]; exact hk) (List.getElem?_eq_getElem hk)
      have HD := Lib.hid hd
      clear hd
      go_wp2
      go_ret
      exact ⟨ret_int (by rw [HD.out]; rfl), Hb.out⟩
end Go.Proofs.YtcjkbmmjpkghlaaGreat.Intern

/-
  Package intern's Right and the document's: whether rows are valid.
-/
namespace Go.Proofs.YtcjkbmmjpkghlaaGreat.Intern
open Go.RowKit

theorem right_size (A : Option Addr) (n c : Nat) (w : World) (h : n ≠ 16) : Calls Tryz.prog 32 #[.slice A n c] w fun e w' => e = .returned (.bool false) ∧ w = w' := by
  have hb : ((n : Int) != 16) = true := by simp; omega
  go_enter Tryz.func32, Tryz.ntmps32
  go_wp2
  go_ret
  exact ⟨rfl, rfl⟩
theorem rright_size (A : Option Addr) (n c : Nat) (w : World) (h : n ≠ 16) : Calls Tryz.prog 182 #[.slice A n c] w fun e w' => e = .returned (.bool false) ∧ w = w' := by
  have hb : ((n : Int) != 16) = true := by simp; omega
  go_enter Tryz.func182, Tryz.ntmps182
  go_wp2
  go_ret
  exact ⟨rfl, rfl⟩

/-- What stands in the variable of the loop, behind a call. -/
theorem kept_row {w w1 : World} {a : Nat} {x : Int} (hb : Below (w.alloc (.cells #[.int .u16 (a : Int), .int .i64 x] 68)).heap.size (w.alloc (.cells #[.int .u16 (a : Int), .int .i64 x] 68)) w1) :
    w1.cell? ⟨w.heap.size, 0, none⟩ = some (.int .u16 (a : Int)) ∧ w1.cell? ⟨w.heap.size, 1, none⟩ = some (.int .i64 x) ∧ Below w.heap.size w w1 ∧ w.heap.size < w1.heap.size := by
  have hk : Bk (w.alloc (.cells #[.int .u16 (a : Int), .int .i64 x] 68)) w.heap.size 68 [.int .u16 (a : Int), .int .i64 x] := Bk.new w 68 _
  have hk1 := hk.below hb (by simp)
  exact ⟨hk1.cell 0, hk1.cell 1, ((Below.refl _ w).alloc (Nat.le_refl _) _).trans (hb.mono (by simp)), by have := hb.size; simp at this; omega⟩

set_option maxHeartbeats 800000 in
/-- The rows up to one that is not in order, or all. -/
theorem right_any (l : List Rw) (A : Option Addr) (c : Nat) (w : World) (hn : l.length = 16) (hr : Rd w w.heap.size A (rowsV l)) :
    Calls Tryz.prog 32 #[.slice A 16 c] w fun e w' => e = .returned (.bool (rightB l)) ∧ Below w.heap.size w w' := by
  have Hn := Lib.hid hn
  have Hr := Lib.hid hr
  clear hn hr
  go_enter Tryz.func32, Tryz.ntmps32
  go_wp2
  go_loopw [3, 4, 10] (fun _ _ i wr => ∃ j : Nat, j ≤ 16 ∧ i = .int .i64 (j : Int) ∧ Hid (∀ (k : Nat) r, k < j → l[k]? = some r → Good l k r) ∧ Below w.heap.size w wr) (fun _ _ i _ => 16 - (intOf i).toNat)
  case atStart => exact ⟨0, Nat.zero_le _, rfl, Lib.hid (fun k s hk => by omega), Below.refl _ _⟩
  case round =>
    obtain ⟨j, hj, rfl, Hf, hb⟩ := hrel
    have Hb := Lib.hid hb
    clear hb
    by_cases hlt : j < 16
    · obtain ⟨⟨b, x⟩, hrj⟩ : ∃ r, l[j]? = some r := ⟨_, List.getElem?_eq_getElem (by rw [Hn.out]; exact hlt)⟩
      obtain ⟨B, o, rfl, hB, hc0, hc1⟩ := rd_row (Hr.out.below Hb.out) hrj
      have HR := Lib.hid hrj
      have hs := Nat.lt_of_lt_of_le hB Hb.out.size
      clear hrj hB
      cases hfit : fits ⟨b, x⟩ with
      | false =>
        have hR : ¬ Right l := fun h => by have := h.fits j _ HR.out; rw [hfit] at this; cases this
        have HR := Lib.hid hR
        clear hR
        go_wp2_with (go_at_call 79; (with_reducible refine (fits_row b x _).mono ?_); rintro e w1 ⟨he, hb1⟩; obtain rfl := he; obtain ⟨c0, c1, hb1', hs1⟩ := kept_row hb1; have HB1 := Lib.hid (Hb.out.trans (hb1'.mono Hb.out.size)); clear hb1 hb1'; rw [hfit])
        go_ret
        exact ⟨ret_bool (rightB_no HR.out).symm, HB1.out⟩
      | true =>
        by_cases hx0 : x = 0
        · subst hx0
          have Hnext : Hid (∀ (k : Nat) r, k < j + 1 → l[k]? = some r → Good l k r) := Lib.hid fun k r hk hs => by
            by_cases e : k = j
            · subst e
              rw [HR.out] at hs
              injection hs with hs
              rw [← hs]; exact ⟨hfit, .inl rfl⟩
            · exact Hf.out k r (by omega) hs
          have hbb : ((0 : Int) == 0) = true := rfl
          go_wp2_with (first
            | (go_at_call 79; (with_reducible refine (fits_row b 0 _).mono ?_); rintro e w1 ⟨he, hb1⟩; obtain rfl := he; obtain ⟨c0, c1, hb1', hs1⟩ := kept_row hb1; have HB1 := Lib.hid (Hb.out.trans (hb1'.mono Hb.out.size)); clear hb1 hb1'; rw [hfit])
            | (go_at_call 80; (with_reducible refine (isFree_any b 0 _).mono ?_); rintro e w2 ⟨he, hw2⟩; obtain rfl := he; have hb2 : Below w1.heap.size w1 w2 := (by subst hw2; exact alloc_below _ _); clear hw2; have d0 := (hb2.cell hs1).trans c0; have hs2 := Nat.lt_of_lt_of_le hs1 hb2.size; have HB2 := Lib.hid (HB1.out.trans (hb2.mono HB1.out.size)); clear hb2))
          go_roundw
          case rel => exact ⟨j + 1, by omega, by go_num, Hnext, HB2.out⟩
          case measure => simp [intOf]; omega
        · have hbb : (x == 0) = false := by simp [hx0]
          by_cases hp : fnd l b = some j
          · have Hnext : Hid (∀ (k : Nat) r, k < j + 1 → l[k]? = some r → Good l k r) := Lib.hid fun k r hk hs => by
              by_cases e : k = j
              · subst e
                rw [HR.out] at hs
                injection hs with hs
                rw [← hs]; exact ⟨hfit, .inr hp⟩
              · exact Hf.out k r (by omega) hs
            have HP : Hid (placeI (l.findIdx? (hasL b)) = (j : Int)) := Lib.hid (by have : l.findIdx? (hasL b) = some j := hp; rw [this]; rfl)
            have hne : ((j : Int) != (j : Int)) = false := by simp
            clear hp
            go_wp2_with (first
              | (go_at_call 79; (with_reducible refine (fits_row b x _).mono ?_); rintro e w1 ⟨he, hb1⟩; obtain rfl := he; obtain ⟨c0, c1, hb1', hs1⟩ := kept_row hb1; have HB1 := Lib.hid (Hb.out.trans (hb1'.mono Hb.out.size)); clear hb1 hb1'; rw [hfit])
              | (go_at_call 80; (with_reducible refine (isFree_any b x _).mono ?_); rintro e w2 ⟨he, hw2⟩; obtain rfl := he; have hb2 : Below w1.heap.size w1 w2 := (by subst hw2; exact alloc_below _ _); clear hw2; have d0 := (hb2.cell hs1).trans c0; have hs2 := Nat.lt_of_lt_of_le hs1 hb2.size; have HB2 := Lib.hid (HB1.out.trans (hb2.mono HB1.out.size)); clear hb2)
              | (go_at_call 82; (with_reducible refine (has_any b _).mono ?_); rintro e w3 ⟨he, hw3⟩; obtain rfl := he; have hb3 : Below w2.heap.size w2 w3 := (by subst hw3; exact alloc_below _ _); have k0 : w3.cell? ⟨w2.heap.size, 0, none⟩ = some (.int .u16 (b : Int)) := (by subst hw3; exact (Bk.new w2 36 [.int .u16 (b : Int)]).cell 0); have ks : w2.heap.size < w3.heap.size := (by subst hw3; simp); clear hw3; have HB3 := Lib.hid (HB2.out.trans (hb3.mono HB2.out.size)); clear hb3)
              | (go_at_call 81; (with_reducible refine (index_has l _ 16 c _ b _ k0 ks Hn.out ((Hr.out.below HB3.out).more HB3.out.size) (by omega)).mono ?_); rintro e w4 ⟨he, hb4⟩; obtain rfl := he; have HB4 := Lib.hid (HB3.out.trans (hb4.mono HB3.out.size)); clear hb4; rw [HP.out]))
            go_roundw
            case rel => exact ⟨j + 1, by omega, by go_num, Hnext, HB4.out⟩
            case measure => simp [intOf]; omega
          · have hR : ¬ Right l := fun h => by
              rcases (h.good HR.out).2 with h | h
              · exact hx0 h
              · exact hp h
            have HR2 := Lib.hid hR
            clear hR
            obtain ⟨q, hq⟩ : ∃ q, placeI (l.findIdx? (hasL b)) = q := ⟨_, rfl⟩
            have hne : (q != (j : Int)) = true := by
              rw [bne_iff_ne]
              intro e
              apply hp
              unfold fnd
              rw [e] at hq
              cases hF : l.findIdx? (hasL b) with
              | none => rw [hF] at hq; simp only [placeI] at hq; omega
              | some m => rw [hF] at hq; simp only [placeI] at hq; congr 1; omega
            have HP := Lib.hid hq
            clear hp hq
            go_wp2_with (first
              | (go_at_call 79; (with_reducible refine (fits_row b x _).mono ?_); rintro e w1 ⟨he, hb1⟩; obtain rfl := he; obtain ⟨c0, c1, hb1', hs1⟩ := kept_row hb1; have HB1 := Lib.hid (Hb.out.trans (hb1'.mono Hb.out.size)); clear hb1 hb1'; rw [hfit])
              | (go_at_call 80; (with_reducible refine (isFree_any b x _).mono ?_); rintro e w2 ⟨he, hw2⟩; obtain rfl := he; have hb2 : Below w1.heap.size w1 w2 := (by subst hw2; exact alloc_below _ _); clear hw2; have d0 := (hb2.cell hs1).trans c0; have hs2 := Nat.lt_of_lt_of_le hs1 hb2.size; have HB2 := Lib.hid (HB1.out.trans (hb2.mono HB1.out.size)); clear hb2)
              | (go_at_call 82; (with_reducible refine (has_any b _).mono ?_); rintro e w3 ⟨he, hw3⟩; obtain rfl := he; have hb3 : Below w2.heap.size w2 w3 := (by subst hw3; exact alloc_below _ _); have k0 : w3.cell? ⟨w2.heap.size, 0, none⟩ = some (.int .u16 (b : Int)) := (by subst hw3; exact (Bk.new w2 36 [.int .u16 (b : Int)]).cell 0); have ks : w2.heap.size < w3.heap.size := (by subst hw3; simp); clear hw3; have HB3 := Lib.hid (HB2.out.trans (hb3.mono HB2.out.size)); clear hb3)
              | (go_at_call 81; (with_reducible refine (index_has l _ 16 c _ b _ k0 ks Hn.out ((Hr.out.below HB3.out).more HB3.out.size) (by omega)).mono ?_); rintro e w4 ⟨he, hb4⟩; obtain rfl := he; have HB4 := Lib.hid (HB3.out.trans (hb4.mono HB3.out.size)); clear hb4; rw [HP.out]))
            go_ret
            exact ⟨ret_bool (rightB_no HR2.out).symm, HB4.out⟩
    · obtain rfl : j = 16 := by omega
      have hR : Right l := right_of_good Hn.out fun k r hk => Hf.out k r (by have := (List.getElem?_eq_some_iff.1 hk).1; rw [Hn.out] at this; exact this) hk
      have HR := Lib.hid hR
      clear hR
      go_wp2
      go_ret
      exact ⟨ret_bool (rightB_yes HR.out).symm, Hb.out⟩

/-- Two rows, as the document compares them. -/
theorem fits_not {b : Nat} {x : Int} (h : fits ⟨b, x⟩ = false) : x < 0 ∨ 65535 < x ∨ (x = 0 ∧ b ≠ 0) := by
  unfold fits at h
  by_cases h0 : x = 0
  · subst h0
    simp at h
    exact .inr (.inr ⟨rfl, h⟩)
  · simp [h0] at h
    omega

set_option maxHeartbeats 1600000 in
set_option maxRecDepth 100000 in
theorem rright_any (l : List Rw) (A : Option Addr) (c : Nat) (B0 : Nat) (w : World) (hn : l.length = 16) (hr : Rd w B0 A (rowsV l)) :
    Calls Tryz.prog 182 #[.slice A 16 c] w fun e w' => e = .returned (.bool (rightB l)) ∧ ∃ q, w' = w.drewN q := by
  rcases rd_rows hr with h | ⟨B, o, rfl, hB, hcc⟩
  · subst h; simp at hn
  have Hn := Lib.hid hn
  have Hc := Lib.hid hcc
  clear hn hr hcc
  go_enter Tryz.func182, Tryz.ntmps182
  go_wp2
  go_loopw [3] (fun i wr => ∃ j : Nat, j ≤ 16 ∧ i = .int .i64 (j : Int) ∧ Hid (∀ (m : Nat) r, m < j → l[m]? = some r → fits r = true ∧ ∀ (t : Nat) s, t < m → l[t]? = some s → ¬ clash r s) ∧ ∃ q, wr = w.drewN q) (fun i _ => 16 - (intOf i).toNat)
  case atStart => exact ⟨0, Nat.zero_le _, rfl, Lib.hid (fun k s hk => by omega), 0, rfl⟩
  case round =>
    obtain ⟨j, hj, rfl, Hf, q, rfl⟩ := hrel
    by_cases hlt : j < 16
    · obtain ⟨⟨b, x⟩, hrj⟩ : ∃ r, l[j]? = some r := ⟨_, List.getElem?_eq_getElem (by rw [Hn.out]; exact hlt)⟩
      obtain ⟨c0, c1⟩ := Hc.out j ⟨b, x⟩ hrj
      have HR := Lib.hid hrj
      have f0 : (0 : Int) ≤ (j : Int) := Int.natCast_nonneg _
      have f1 : (j : Int) < 16 := by omega
      clear hrj
      cases hfit : fits ⟨b, x⟩ with
      | false =>
        rcases fits_not hfit with hx | hx | ⟨hx, hb⟩
        · have g0 : decide (x < 0) = true := decide_eq_true hx
          have hR : ¬ Right l := fun h => by have := h.fits j _ HR.out; rw [hfit] at this; cases this
          have HR2 := Lib.hid hR
          clear hR
          go_wp2
          go_ret
          exact ⟨ret_bool (rightB_no HR2.out).symm, q, rfl⟩
        · have g0 : decide (x < 0) = false := decide_eq_false (by omega)
          have g1 : decide (65535 < x) = true := decide_eq_true hx
          have hR : ¬ Right l := fun h => by have := h.fits j _ HR.out; rw [hfit] at this; cases this
          have HR2 := Lib.hid hR
          clear hR
          go_wp2
          go_ret
          exact ⟨ret_bool (rightB_no HR2.out).symm, q, rfl⟩
        · subst hx
          have g2 : ((0 : Int) == 0) = true := rfl
          have g3 : ((b : Int) != 0) = true := by simp; omega
          have hR : ¬ Right l := fun h => by have := h.fits j _ HR.out; rw [hfit] at this; cases this
          have HR2 := Lib.hid hR
          clear hR
          go_wp2
          go_ret
          exact ⟨ret_bool (rightB_no HR2.out).symm, q, rfl⟩
      | true =>
       by_cases hx0 : x = 0
       · subst hx0
         obtain rfl : b = 0 := fits_free hfit rfl
         have g2 : ((0 : Int) == 0) = true := rfl
         have g3 : ((0 : Int) != 0) = false := rfl
         go_wp2
         go_loopw [4] (fun i wr => ∃ k : Nat, k ≤ j ∧ i = .int .i64 (k : Int) ∧ Hid (∀ (m : Nat) s, m < k → l[m]? = some s → ¬ clash ⟨0, 0⟩ s) ∧ ∃ q, wr = w.drewN q) (fun i _ => j - (intOf i).toNat)
         case atStart => exact ⟨0, Nat.zero_le _, rfl, Lib.hid (fun m s hm => by omega), q, rfl⟩
         case round =>
           obtain ⟨k, hk, rfl, Hk, q2, rfl⟩ := hrel
           by_cases hkj : k < j
           · obtain ⟨⟨a, y⟩, hsk⟩ : ∃ r, l[k]? = some r := ⟨_, List.getElem?_eq_getElem (by rw [Hn.out]; omega)⟩
             obtain ⟨d0, d1⟩ := Hc.out k ⟨a, y⟩ hsk
             have HS := Lib.hid hsk
             have e0 : (0 : Int) ≤ (k : Int) := Int.natCast_nonneg _
             have e1 : (k : Int) < 16 := by omega
             clear hsk
             have Hk2 : Hid (∀ (m : Nat) s, m < k + 1 → l[m]? = some s → ¬ clash ⟨0, 0⟩ s) := Lib.hid fun m s hm hs => by
               by_cases e : m = k
               · subst e
                 rw [HS.out] at hs
                 injection hs with hs
                 subst hs
                 intro ⟨h1, _, _⟩; exact absurd h1 (by decide)
               · exact Hk.out m s (by omega) hs
             have g0 : decide ((0 : Int) < 0) = false := rfl
             go_wp2
             go_quiet (fail)
             go_wp2
             go_roundw
             case rel => exact ⟨k + 1, by omega, by go_num, Hk2, q2 + nq, rfl⟩
             case measure => simp [intOf]; omega
           · obtain rfl : k = j := by omega
             have Hf2 : Hid (∀ (m : Nat) r, m < k + 1 → l[m]? = some r → fits r = true ∧ ∀ (t : Nat) s, t < m → l[t]? = some s → ¬ clash r s) := Lib.hid fun m r hm hs => by
               by_cases e : m = k
               · subst e
                 rw [HR.out] at hs
                 injection hs with hs
                 subst hs
                 exact ⟨hfit, fun t s ht hs => Hk.out t s ht hs⟩
               · exact Hf.out m r (by omega) hs
             go_wp2
             go_roundw
             case rel => exact ⟨k + 1, by omega, by go_num, Hf2, q2, rfl⟩
             case measure => simp [intOf]; omega
       · have hx1 := fits_lo hfit
         have hx2 := fits_hi hfit
         simp only at hx1 hx2
         have hx : 0 < x := by omega
         have g0 : decide (x < 0) = false := decide_eq_false (by omega)
         have g1 : decide (65535 < x) = false := decide_eq_false (by omega)
         have g2 : (x == 0) = false := by simp [hx0]
         have g4 : decide (0 < x) = true := decide_eq_true hx
         clear hx0 hx1 hx2
         go_wp2
         go_loopw [4] (fun i wr => ∃ k : Nat, k ≤ j ∧ i = .int .i64 (k : Int) ∧ Hid (∀ (m : Nat) s, m < k → l[m]? = some s → ¬ clash ⟨b, x⟩ s) ∧ ∃ q, wr = w.drewN q) (fun i _ => j - (intOf i).toNat)
         case atStart => exact ⟨0, Nat.zero_le _, rfl, Lib.hid (fun m s hm => by omega), q, rfl⟩
         case round =>
           obtain ⟨k, hk, rfl, Hk, q2, rfl⟩ := hrel
           by_cases hkj : k < j
           · obtain ⟨⟨a, y⟩, hsk⟩ : ∃ r, l[k]? = some r := ⟨_, List.getElem?_eq_getElem (by rw [Hn.out]; omega)⟩
             obtain ⟨d0, d1⟩ := Hc.out k ⟨a, y⟩ hsk
             have HS := Lib.hid hsk
             have e0 : (0 : Int) ≤ (k : Int) := Int.natCast_nonneg _
             have e1 : (k : Int) < 16 := by omega
             clear hsk
             by_cases hy : 0 < y
             · have g1 : decide (0 < y) = true := decide_eq_true hy
               by_cases hab : b = a
               · have hR : ¬ Right l := fun h => h.pairs HR.out HS.out hkj ⟨hx, hy, hab⟩
                 have HR2 := Lib.hid hR
                 subst hab
                 have g2 : ((b : Int) == (b : Int)) = true := by simp
                 clear hR
                 go_wp2
                 go_quiet (fail)
                 go_wp2
                 go_ret
                 exact ⟨ret_bool (rightB_no HR2.out).symm, q2 + nq, by rw [World.drewN_drewN]⟩
               · have g2 : ((b : Int) == (a : Int)) = false := by rw [beq_cast]; simp [hab]
                 have Hk2 : Hid (∀ (m : Nat) s, m < k + 1 → l[m]? = some s → ¬ clash ⟨b, x⟩ s) := Lib.hid fun m s hm hs => by
                   by_cases e : m = k
                   · subst e
                     rw [HS.out] at hs
                     injection hs with hs
                     subst hs
                     intro ⟨_, _, h3⟩; exact hab h3
                   · exact Hk.out m s (by omega) hs
                 clear hab
                 go_wp2
                 go_quiet (fail)
                 go_wp2
                 go_roundw
                 case rel => exact ⟨k + 1, by omega, by go_num, Hk2, q2 + nq, rfl⟩
                 case measure => simp [intOf]; omega
             · have g1 : decide (0 < y) = false := decide_eq_false hy
               have Hk2 : Hid (∀ (m : Nat) s, m < k + 1 → l[m]? = some s → ¬ clash ⟨b, x⟩ s) := Lib.hid fun m s hm hs => by
                 by_cases e : m = k
                 · subst e
                   rw [HS.out] at hs
                   injection hs with hs
                   subst hs
                   intro ⟨_, h2, _⟩; exact hy h2
                 · exact Hk.out m s (by omega) hs
               go_wp2
               go_quiet (fail)
               go_wp2
               go_roundw
               case rel => exact ⟨k + 1, by omega, by go_num, Hk2, q2 + nq, rfl⟩
               case measure => simp [intOf]; omega
           · obtain rfl : k = j := by omega
             have Hf2 : Hid (∀ (m : Nat) r, m < k + 1 → l[m]? = some r → fits r = true ∧ ∀ (t : Nat) s, t < m → l[t]? = some s → ¬ clash r s) := Lib.hid fun m r hm hs => by
               by_cases e : m = k
               · subst e
                 rw [HR.out] at hs
                 injection hs with hs
                 subst hs
                 exact ⟨hfit, fun t s ht hs => Hk.out t s ht hs⟩
               · exact Hf.out m r (by omega) hs
             go_wp2
             go_roundw
             case rel => exact ⟨k + 1, by omega, by go_num, Hf2, q2, rfl⟩
             case measure => simp [intOf]; omega
    · obtain rfl : j = 16 := by omega
      have hR : Right l := right_of_pairs Hn.out fun k r hk => Hf.out k r (by have := (List.getElem?_eq_some_iff.1 hk).1; rw [Hn.out] at this; exact this) hk
      have HR := Lib.hid hR
      clear hR
      go_wp2
      go_ret
      exact ⟨ret_bool (rightB_yes HR.out).symm, q, rfl⟩

/-- Right, of any rows. -/
theorem right_all (l : List Rw) (A : Option Addr) (n c : Nat) (w : World) (hn : l.length = n) (hr : Rd w w.heap.size A (rowsV l)) :
    Calls Tryz.prog 32 #[.slice A n c] w fun e w' => e = .returned (.bool (rightB l)) ∧ Below w.heap.size w w' := by
  by_cases h : n = 16
  · subst h
    exact right_any l A c w hn hr
  · refine (right_size A n c w h).mono ?_
    rintro e w' ⟨rfl, rfl⟩
    exact ⟨ret_bool (rightB_size (by omega)).symm, Below.refl _ _⟩
theorem rright_all (l : List Rw) (A : Option Addr) (n c B : Nat) (w : World) (hn : l.length = n) (hr : Rd w B A (rowsV l)) :
    Calls Tryz.prog 182 #[.slice A n c] w fun e w' => e = .returned (.bool (rightB l)) ∧ ∃ q, w' = w.drewN q := by
  by_cases h : n = 16
  · subst h
    exact rright_any l A c B w hn hr
  · refine (rright_size A n c w h).mono ?_
    rintro e w' ⟨rfl, rfl⟩
    exact ⟨ret_bool (rightB_size (by omega)).symm, 0, rfl⟩
end Go.Proofs.YtcjkbmmjpkghlaaGreat.Intern

/-
  Rows that are made and copied; package intern's with, Find and the document's Find.
-/
namespace Go.Proofs.YtcjkbmmjpkghlaaGreat.Intern
open Go.RowKit

theorem info37 : (Tryz.prog.info? 68).map (fun i => (i.zero, i.size, i.bytes)) = some (some (.agg #[.int .u16 0, .int .i64 0]), 2, 16) := by kernel_rfl
/-- Sixteen free rows. -/
def frees : List Rw := List.replicate 16 .z
theorem make_rows (u : World) : (Instr.makeSlice 56 (.int .i64 16) (.int .i64 16)).run Tryz.prog u =
    .ok (.slice (some ⟨u.heap.size, 0, none⟩) 16 16) (u.alloc (.cells (rowsV frees).toArray 68)) := by
  obtain ⟨i0, hi, hz0, hz1, hz2⟩ := info_parts info37
  have hr := run_make (P := Tryz.prog) u 56 68 i0 (.agg #[.int .u16 0, .int .i64 0]) Tryz.underlying56 hi hz0 .i64 .i64 16 16 (by omega) (Int.le_refl _) (by rw [hz2]; omega) (by omega)
  have e : (madeCells (Value.agg #[.int .u16 0, .int .i64 0]).cells (16 * i0.size)) = (rowsV frees).toArray := by
    rw [hz1]
    kernel_rfl
  have e2 : Int.toNat 16 = 16 := rfl
  rw [e2, e] at hr
  exact hr

/-- 'copy(d, s)': all of a row of as many elements goes over. -/
theorem run_copy_all {P : Program} (w : World) (dT sT ty elem : TypeId) (g n dCap : Nat) (a : Addr) (sCap k : Nat) (cur : List Value) (t : TypeId) (cs : List Value)
    (hu : P.underlying dT = some (.slice elem)) (hs : (P.info? elem).map (·.size) = some k)
    (hg : w.heap[g]? = some (.cells cur.toArray t (0, 0))) (hn : cs.length = n * k) (hc : cur.length = n * k)
    (hsrc : ∀ j v, cs[j]? = some v → w.cell? (a.add j) = some v) (h1 : ∀ v ∈ cs, v.oneCell' = true) :
    (Builtin.copy_ #[dT, sT] ty #[.slice (some ⟨g, 0, none⟩) n dCap, .slice (some a) n sCap]).run P w = .ok (goInt n) (w.setRow g cs.toArray) := by
  have hl := run_loadCells_list (P := P) w a cs hsrc
  have hst := run_storeCells_at P g 0 t cs 0 cur.toArray w hg (by simp [hc, hn]) h1
  have e : (cur.toArray.toList.take (0 + 0) ++ cs ++ cur.toArray.toList.drop (0 + 0 + cs.length)).toArray = cs.toArray := by
    congr 1
    simp
    omega
  rw [e] at hst
  cases hq : P.info? elem with
  | none => simp [hq] at hs
  | some i =>
    have hi : i.size = k := by simpa [hq] using hs
    have hm : Nat.min n n = n := Nat.min_self n
    simp [Builtin.copy_, run_underlying hu, Builtin.lenOf, Builtin.firstCells, sizeOf, typeInfo, hq, hi, ← hn, hl, hst, hm]

theorem wpList_copy_all {P : Program} {w : World} {ops : Array Oper} {rest : List Oper} {o : Oper} {a : Act} {Q : Exit → Act → World → Prop} (hgd : o.guard = none) (d s : Operand) (dT sT : TypeId)
    (ho : o.op = .call { callee := .builtin .copy, args := #[d, s], argTypes := #[dT, sT] }) (elem : TypeId) (k : Nat) (hu : P.underlying dT = some (.slice elem)) (hsz : (P.info? elem).map (·.size) = some k)
    (g n dCap : Nat) (ad : Addr) (sCap : Nat) (hd : a.eval d = .slice (some ⟨g, 0, none⟩) n dCap) (hs : a.eval s = .slice (some ad) n sCap)
    (cur : List Value) (t : TypeId) (hg : w.heap[g]? = some (.cells cur.toArray t (0, 0))) (cs : List Value) (hn : cs.length = n * k) (hc : cur.length = n * k)
    (hsrc : ∀ j v, cs[j]? = some v → w.cell? (ad.add j) = some v) (h1 : ∀ v ∈ cs, v.oneCell' = true)
    (h : ∀ w', Hid (w' = w.setRow g cs.toArray) → wpList P ops Q rest (a.put o.dst (goInt n)) w') : wpList P ops Q (o :: rest) a w := by
  refine wpList_plain hgd fun K hK => ?_
  have hrun := run_copy_all (P := P) w dT sT o.type elem g n dCap ad sCap k cur t cs hu hsz hg hn hc hsrc h1
  unfold Oper.wp
  simp [execOp, ho, resolve, invoke, builtin, hd, hs, hrun, Result.andThen]
  exact hK _ _ (h _ (Lib.hid rfl))

theorem size37 : (Tryz.prog.info? 68).map (·.size) = some 2 := by kernel_rfl

set_option maxHeartbeats 800000 in
theorem with_any (l : List Rw) (A : Option Addr) (c : Nat) (i : Nat) (a : Nat) (x : Int) (w : World) (hn : l.length = 16) (hr : Rd w w.heap.size A (rowsV l)) (hi : i < 16) :
    Calls Tryz.prog 189 #[.slice A 16 c, .int .i64 (i : Int), .agg #[.int .u16 (a : Int), .int .i64 x]] w fun e w' => ∃ g, e = .returned (.slice (some ⟨g, 0, none⟩) 16 16) ∧ w.heap.size ≤ g ∧ Bk w' g 68 (rowsV (l.set i ⟨a, x⟩)) ∧ Below w.heap.size w w' := by
  obtain ⟨b, o, rfl, hb, hcc⟩ : ∃ b o, A = some ⟨b, o, none⟩ ∧ b < w.heap.size ∧ ∀ j u, (rowsV l)[j]? = some u → w.cell? ⟨b, o + j, none⟩ = some u := by
    rcases hr with h | h
    · have := length_rowsV l; rw [h, hn] at this; simp at this
    · exact h
  have hmk := make_rows
  have Hn := Lib.hid hn
  have Hc := Lib.hid hcc
  clear hr hn hcc
  go_enter Tryz.func189, Tryz.ntmps189
  go_wp2_with (refine wpList_copy_all rfl (.tmp 11) (.tmp 12) 56 56 rfl 68 2 Tryz.underlying56 size37 (w.heap.size + 1) 16 16 ⟨b, o, none⟩ c rfl rfl (rowsV frees) 68 ?c0 (rowsV l) ?c1 ?c2 ?c3 (rowsV_one l) ?_)
  case c0 =>
    have := heap_alloc_new (w.alloc (.cells #[.int .u16 (a : Int), .int .i64 x] 68)) (.cells (rowsV frees).toArray 68)
    simpa using this
  case c1 => rw [length_rowsV, Hn.out]
  case c2 => rfl
  case c3 =>
    intro j v hv
    rw [Addr.add_lit]
    exact (World.cell?_alloc_past _ _ _ (by simp; omega)).trans ((World.cell?_alloc_past _ _ _ hb).trans (Hc.out j v hv))
  intro w3 h3
  obtain ⟨W1, hW1⟩ : ∃ W1, W1 = w.alloc (.cells #[.int .u16 (a : Int), .int .i64 x] 68) := ⟨_, rfl⟩
  have hs1 : W1.heap.size = w.heap.size + 1 := by rw [hW1]; simp
  have hw3 : w3 = W1.alloc (.cells (rowsV l).toArray 68) := by
    have := h3.out
    rw [← hW1, ← hs1, World.setRow_alloc_new] at this
    exact this
  have hb1 : Below w.heap.size w W1 := by rw [hW1]; exact alloc_below _ _
  have hk1 : Bk W1 w.heap.size 68 [.int .u16 (a : Int), .int .i64 x] := by rw [hW1]; exact Bk.new w 68 _
  have hb3 : Below W1.heap.size W1 w3 := by rw [hw3]; exact alloc_below _ _
  have hk3 : Bk w3 (w.heap.size + 1) 68 (rowsV l) := by rw [hw3, ← hs1]; exact Bk.new W1 68 _
  have hkb := hk1.below hb3 hk1.lt
  have d0 := hkb.cell 0
  have d1 := hkb.cell 1
  have HB3 := Lib.hid (hb1.trans (hb3.mono hb1.size))
  have hsz := hk3.lt
  have e0 : ∃ u, w3.cell? ⟨w.heap.size + 1, i * 2, none⟩ = some u := ⟨_, (hk3.cell _).trans (List.getElem?_eq_getElem (by rw [length_rowsV, Hn.out]; omega))⟩
  have e1 : ∃ u, w3.cell? ⟨w.heap.size + 1, i * 2 + 1, none⟩ = some u := ⟨_, (hk3.cell _).trans (List.getElem?_eq_getElem (by rw [length_rowsV, Hn.out]; omega))⟩
  obtain ⟨u0, e0⟩ := e0
  obtain ⟨u1, e1⟩ := e1
  have f0 := hk3.frozen (i * 2)
  have f1 := hk3.frozen (i * 2 + 1)
  have hset := (hk3.set (i * 2) (.int .u16 (a : Int))).set (i * 2 + 1) (.int .i64 x)
  rw [← rowsV_set l i ⟨a, x⟩ (by rw [Hn.out]; exact hi)] at hset
  have HK := Lib.hid hset
  have HB4 := Lib.hid ((HB3.out.setCell (p := ⟨w.heap.size + 1, i * 2, none⟩) (by show w.heap.size ≤ w.heap.size + 1; omega) (.int .u16 (a : Int))).setCell (p := ⟨w.heap.size + 1, i * 2 + 1, none⟩) (by show w.heap.size ≤ w.heap.size + 1; omega) (.int .i64 x))
  clear hW1 hs1 hw3 hb1 hk1 hb3 hk3 hkb h3 hset hmk
  go_wp2
  go_ret
  exact ⟨w.heap.size + 1, rfl, by omega, HK.out, HB4.out⟩
theorem with_zero (l : List Rw) (A : Option Addr) (c : Nat) (i : Nat) (w : World) (hn : l.length = 16) (hr : Rd w w.heap.size A (rowsV l)) (hi : i < 16) :
    Calls Tryz.prog 189 #[.slice A 16 c, .int .i64 (i : Int), .agg #[.int .u16 0, .int .i64 0]] w fun e w' => ∃ g, e = .returned (.slice (some ⟨g, 0, none⟩) 16 16) ∧ w.heap.size ≤ g ∧ Bk w' g 68 (rowsV (l.set i .z)) ∧ Below w.heap.size w w' := with_any l A c i 0 0 w hn hr hi
end Go.Proofs.YtcjkbmmjpkghlaaGreat.Intern

/-
  Package intern's Find and the document's.
-/
namespace Go.Proofs.YtcjkbmmjpkghlaaGreat.Intern
open Go.RowKit

set_option maxHeartbeats 800000 in
theorem find_any (l : List Rw) (A : Option Addr) (n c a : Nat) (w : World) (hn : l.length = n) (hr : Rd w w.heap.size A (rowsV l)) (hm : n ≤ 9223372036854775807) :
    Calls Tryz.prog 188 #[.slice A n c, .int .u16 (a : Int)] w fun e w' => e = .returned (fndV (fndP l a)) ∧ Below w.heap.size w w' := by
  have Hn := Lib.hid hn
  have Hr := Lib.hid hr
  clear hn hr
  by_cases hR : Right l
  · have hf := fndP_yes hR a
    have hb := rightB_yes hR
    have HF := Lib.hid hf
    have hpl : l.findIdx? (hasL a) = fnd l a := rfl
    clear hR hf
    cases hfa : fnd l a with
    | none =>
      rw [hfa] at hpl
      have HP := Lib.hid hpl
      have HA := Lib.hid hfa
      clear hpl hfa
      go_enter Tryz.func188, Tryz.ntmps188
      go_wp2_with (first
        | (go_at_call 32; (with_reducible refine (right_all l A n c _ Hn.out Hr.out).mono ?_); rintro e w1 ⟨he, hb1⟩; obtain rfl := he; rw [hb]; have HB1 := Lib.hid hb1; clear hb1)
        | (go_at_call 82; (with_reducible refine (has_any a _).mono ?_); rintro e w3 ⟨he, hw3⟩; obtain rfl := he; have hb3 : Below w1.heap.size w1 w3 := (by subst hw3; exact alloc_below _ _); have k0 : w3.cell? ⟨w1.heap.size, 0, none⟩ = some (.int .u16 (a : Int)) := (by subst hw3; exact (Bk.new w1 36 [.int .u16 (a : Int)]).cell 0); have ks : w1.heap.size < w3.heap.size := (by subst hw3; simp); clear hw3; have HB3 := Lib.hid (HB1.out.trans (hb3.mono HB1.out.size)); clear hb3)
        | (go_at_call 81; (with_reducible refine (index_has l _ n c _ a _ k0 ks Hn.out ((Hr.out.below HB3.out).more HB3.out.size) hm).mono ?_); rintro e w4 ⟨he, hb4⟩; obtain rfl := he; have HB4 := Lib.hid (HB3.out.trans (hb4.mono HB3.out.size)); clear hb4; rw [HP.out]; simp only [placeI]))
      go_ret2
      exact ⟨by rw [HF.out, HA.out]; rfl, HB4.out⟩
    | some i =>
      rw [hfa] at hpl
      have HP := Lib.hid hpl
      have HA := Lib.hid hfa
      clear hpl hfa
      go_enter Tryz.func188, Tryz.ntmps188
      go_wp2_with (first
        | (go_at_call 32; (with_reducible refine (right_all l A n c _ Hn.out Hr.out).mono ?_); rintro e w1 ⟨he, hb1⟩; obtain rfl := he; rw [hb]; have HB1 := Lib.hid hb1; clear hb1)
        | (go_at_call 82; (with_reducible refine (has_any a _).mono ?_); rintro e w3 ⟨he, hw3⟩; obtain rfl := he; have hb3 : Below w1.heap.size w1 w3 := (by subst hw3; exact alloc_below _ _); have k0 : w3.cell? ⟨w1.heap.size, 0, none⟩ = some (.int .u16 (a : Int)) := (by subst hw3; exact (Bk.new w1 36 [.int .u16 (a : Int)]).cell 0); have ks : w1.heap.size < w3.heap.size := (by subst hw3; simp); clear hw3; have HB3 := Lib.hid (HB1.out.trans (hb3.mono HB1.out.size)); clear hb3)
        | (go_at_call 81; (with_reducible refine (index_has l _ n c _ a _ k0 ks Hn.out ((Hr.out.below HB3.out).more HB3.out.size) hm).mono ?_); rintro e w4 ⟨he, hb4⟩; obtain rfl := he; have HB4 := Lib.hid (HB3.out.trans (hb4.mono HB3.out.size)); clear hb4; rw [HP.out]; simp only [placeI]))
      go_ret2
      exact ⟨by rw [HF.out, HA.out]; rfl, HB4.out⟩
  · have hb := rightB_no hR
    have HF := Lib.hid (fndP_no hR a)
    clear hR
    go_enter Tryz.func188, Tryz.ntmps188
    go_wp2_with (go_at_call 32; (with_reducible refine (right_all l A n c _ Hn.out Hr.out).mono ?_); rintro e w1 ⟨he, hb1⟩; obtain rfl := he; rw [hb]; have HB1 := Lib.hid hb1; clear hb1)
    go_ret2
    exact ⟨by rw [HF.out]; rfl, HB1.out⟩

set_option maxHeartbeats 1600000 in
theorem rfind_any (l : List Rw) (A : Option Addr) (n c a B : Nat) (w : World) (hn : l.length = n) (hr : Rd w B A (rowsV l)) (hm : n ≤ 9223372036854775807) :
    Calls Tryz.prog 129 #[.slice A n c, .int .u16 (a : Int)] w fun e w' => e = .returned (fndV (fndP l a)) ∧ ∃ q, w' = w.drewN q := by
  by_cases hR : Right l
  · have h16 : n = 16 := by rw [← hn]; exact hR.len
    subst h16
    have Hr := Lib.hid hr
    rcases rd_rows hr with h | ⟨B, o, rfl, hB, hcc⟩
    · subst h; simp at hn
    have Hn := Lib.hid hn
    have Hc := Lib.hid hcc
    have HF := Lib.hid (fndP_yes hR a)
    have HS := Lib.hid (fun i b x (h : l[i]? = some (⟨b, x⟩ : Rw)) => fits_lo (hR.fits i _ h))
    have hb := rightB_yes hR
    clear hn hr hcc hR
    go_enter Tryz.func129, Tryz.ntmps129
    go_wp2
    go_loopw [6] (fun i wr => ∃ j : Nat, j ≤ 16 ∧ i = .int .i64 (j : Int) ∧ Hid (∀ (k : Nat) s, k < j → l[k]? = some s → ¬ (s.refs ≠ 0 ∧ s.lab = a)) ∧ ∃ q, wr = w.drewN q) (fun i _ => 16 - (intOf i).toNat)
    case atStart => exact ⟨0, Nat.zero_le _, rfl, Lib.hid (fun k s hk => by omega), 0, rfl⟩
    case round =>
      obtain ⟨j, hj, rfl, Hf, q, rfl⟩ := hrel
      by_cases hlt : j < 16
      · obtain ⟨⟨b, x⟩, hrj⟩ : ∃ r, l[j]? = some r := ⟨_, List.getElem?_eq_getElem (by rw [Hn.out]; exact hlt)⟩
        obtain ⟨d0, d1⟩ := Hc.out j ⟨b, x⟩ hrj
        have hx0 := HS.out j b x hrj
        have HJ := Lib.hid hrj
        have hji : (j : Int) < 16 := by omega
        clear hrj
        by_cases hx : 0 < x
        · have g1 : decide (0 < x) = true := decide_eq_true hx
          by_cases hba : b = a
          · subst hba
            have g2 : ((b : Int) == (b : Int)) = true := by simp
            have HA : Hid (fnd l b = some j) := Lib.hid (fnd_mk HJ.out (by show x ≠ 0; omega) rfl Hf.out)
            clear hx0
            go_wp2_with (go_at_call 182; (with_reducible refine (rright_all l _ 16 c _ _ Hn.out (Hr.out.drewN q)).mono ?_); rintro e w1 ⟨he, q1, hw1⟩; obtain rfl := he; rw [hb]; subst hw1)
            go_ret2
            exact ⟨by rw [HF.out, HA.out]; rfl, q + q1, by first | rfl | rw [World.drewN_drewN]⟩
          · have g2 : ((b : Int) == (a : Int)) = false := by rw [beq_cast]; simp [hba]
            have Hf2 : Hid (∀ (k : Nat) s, k < j + 1 → l[k]? = some s → ¬ (s.refs ≠ 0 ∧ s.lab = a)) := Lib.hid fun k s hk hs => by
              by_cases e : k = j
              · subst e
                rw [HJ.out] at hs
                injection hs with hs
                subst hs
                intro ⟨_, h⟩; exact hba h
              · exact Hf.out k s (by omega) hs
            clear hx0 hba
            go_wp2_with (go_at_call 182; (with_reducible refine (rright_all l _ 16 c _ _ Hn.out (Hr.out.drewN q)).mono ?_); rintro e w1 ⟨he, q1, hw1⟩; obtain rfl := he; rw [hb]; subst hw1)
            go_roundw
            case rel => exact ⟨j + 1, by omega, by go_num, Hf2, q + q1, by first | rfl | rw [World.drewN_drewN]⟩
            case measure => simp [intOf]; omega
        · have g1 : decide (0 < x) = false := decide_eq_false hx
          have Hf2 : Hid (∀ (k : Nat) s, k < j + 1 → l[k]? = some s → ¬ (s.refs ≠ 0 ∧ s.lab = a)) := Lib.hid fun k s hk hs => by
            by_cases e : k = j
            · subst e
              rw [HJ.out] at hs
              injection hs with hs
              subst hs
              intro ⟨h, _⟩; exact h (by show x = 0; omega)
            · exact Hf.out k s (by omega) hs
          clear hx0
          go_wp2_with (go_at_call 182; (with_reducible refine (rright_all l _ 16 c _ _ Hn.out (Hr.out.drewN q)).mono ?_); rintro e w1 ⟨he, q1, hw1⟩; obtain rfl := he; rw [hb]; subst hw1)
          go_roundw
          case rel => exact ⟨j + 1, by omega, by go_num, Hf2, q + q1, by first | rfl | rw [World.drewN_drewN]⟩
          case measure => simp [intOf]; omega
      · obtain rfl : j = 16 := by omega
        have HA : Hid (fnd l a = none) := Lib.hid (by
          cases hfa : fnd l a with
          | none => rfl
          | some i =>
            obtain ⟨r, h1, h2, h3, _⟩ := fnd_some hfa
            exact absurd ⟨h2, h3⟩ (Hf.out i r (by have := (List.getElem?_eq_some_iff.1 h1).1; rw [Hn.out] at this; exact this) h1))
        go_wp2
        go_ret2
        exact ⟨by rw [HF.out, HA.out]; rfl, q, rfl⟩
  · have hb := rightB_no hR
    have HF := Lib.hid (fndP_no hR a)
    have Hn := Lib.hid hn
    have Hr := Lib.hid hr
    clear hR hn hr
    by_cases h0 : n = 0
    · subst h0
      go_enter Tryz.func129, Tryz.ntmps129
      go_wp2
      go_loop [6] (fun i => i = .int .i64 0) (fun _ => 0)
      case atStart => rfl
      case round =>
        obtain rfl := hrel
        go_wp2
        go_ret2
        exact ⟨by rw [HF.out]; rfl, 0, rfl⟩
    · have h1 : (0 : Int) < (n : Int) := by omega
      go_enter Tryz.func129, Tryz.ntmps129
      go_wp2
      go_loop [6] (fun i => i = .int .i64 0) (fun _ => 0)
      case atStart => rfl
      case round =>
        obtain rfl := hrel
        go_wp2_with (go_at_call 182; (with_reducible refine (rright_all l _ n c _ _ Hn.out Hr.out).mono ?_); rintro e w1 ⟨he, q1, hw1⟩; obtain rfl := he; rw [hb]; subst hw1)
        go_ret2
        exact ⟨by rw [HF.out]; rfl, q1, rfl⟩
end Go.Proofs.YtcjkbmmjpkghlaaGreat.Intern

/-
  Package intern's Retain and Release.
-/
namespace Go.Proofs.YtcjkbmmjpkghlaaGreat.Intern
open Go.RowKit

/-- Rows that a call hands back, in memory of their own. -/
def Given (w w' : World) (v : Value) (m : List Rw) : Prop := w'.ownsRow w.heap.size 68 2 v m.length (rowsV m) ∧ Below w.heap.size w w'
theorem given_nil {w w' : World} (hb : Below w.heap.size w w') : Given w w' (.slice none 0 0) [] := ⟨World.ownsRow_nil _ _ _ _, hb⟩
theorem given_block {w w' : World} {g : Nat} {m : List Rw} (hg : w.heap.size ≤ g) (hk : Bk w' g 68 (rowsV m)) (hm : m.length = 16) (hb : Below w.heap.size w w') : Given w w' (.slice (some ⟨g, 0, none⟩) 16 16) m :=
  ⟨by
    rw [hm]
    exact ⟨by rw [length_rowsV, hm], .inr ⟨g, 16, _, rfl, hg, hk, Nat.le_refl _, by decide, by simp [length_rowsV, hm], List.take_of_length_le (by simp [length_rowsV, hm])⟩⟩, hb⟩

/-- What a call hands back that hands back rows, a place and an error. -/
def Hands3 (w : World) (r : Res) (e : Ending) (w' : World) : Prop := ∃ v, e = .returned (.tuple #[v, .int .i64 (r.at_ : Int), .int .i64 (r.err : Int)]) ∧ Given w w' v r.rows
/-- .. rows and an error. -/
def Hands2 (w : World) (r : Res) (e : Ending) (w' : World) : Prop := ∃ v, e = .returned (.tuple #[v, .int .i64 (r.err : Int)]) ∧ Given w w' v r.rows

theorem hands3_nil {w w' : World} {r : Res} {n : Nat} (hr : r = .bad n) (hb : Below w.heap.size w w') : Hands3 w r (.returned (.tuple #[.slice none 0 0, .int .i64 0, .int .i64 (n : Int)])) w' := by
  subst hr
  exact ⟨_, rfl, given_nil hb⟩
theorem hands2_nil {w w' : World} {r : Res} {n : Nat} (hr : r = .bad n) (hb : Below w.heap.size w w') : Hands2 w r (.returned (.tuple #[.slice none 0 0, .int .i64 (n : Int)])) w' := by
  subst hr
  exact ⟨_, rfl, given_nil hb⟩
theorem hands3_rows {w w' : World} {r : Res} {m : List Rw} {i g : Nat} (hr : r = ⟨m, i, 0⟩) (hm : m.length = 16) (hg : w.heap.size ≤ g) (hk : Bk w' g 68 (rowsV m)) (hb : Below w.heap.size w w') :
    Hands3 w r (.returned (.tuple #[.slice (some ⟨g, 0, none⟩) 16 16, .int .i64 (i : Int), .int .i64 0])) w' := by
  subst hr
  exact ⟨_, rfl, given_block hg hk hm hb⟩
theorem hands2_rows {w w' : World} {r : Res} {m : List Rw} {g : Nat} (hr : r = ⟨m, 0, 0⟩) (hm : m.length = 16) (hg : w.heap.size ≤ g) (hk : Bk w' g 68 (rowsV m)) (hb : Below w.heap.size w w') :
    Hands2 w r (.returned (.tuple #[.slice (some ⟨g, 0, none⟩) 16 16, .int .i64 0])) w' := by
  subst hr
  exact ⟨_, rfl, given_block hg hk hm hb⟩

set_option maxHeartbeats 800000 in
theorem ret_no (l : List Rw) (A : Option Addr) (n c a : Nat) (w : World) (hn : l.length = n) (hr : Rd w w.heap.size A (rowsV l)) (hR : ¬ Right l) :
    Calls Tryz.prog 145 #[.slice A n c, .int .u16 (a : Int)] w fun e w' => Hands3 w (retP l a) e w' := by
  have Hn := Lib.hid hn
  have Hr := Lib.hid hr
  have hb := rightB_no hR
  have HP := Lib.hid (retP_no hR a)
  clear hn hr hR
  go_enter Tryz.func145, Tryz.ntmps145
  go_wp2_with (go_at_call 32; (with_reducible refine (right_all l A n c _ Hn.out Hr.out).mono ?_); rintro e w1 ⟨he, hb1⟩; obtain rfl := he; rw [hb]; have HB1 := Lib.hid hb1; clear hb1)
  go_ret3
  exact hands3_nil HP.out HB1.out

set_option maxHeartbeats 800000 in
theorem ret_found (l : List Rw) (A : Option Addr) (c a i : Nat) (w : World) (hn : l.length = 16) (hr : Rd w w.heap.size A (rowsV l)) (hR : Right l) (hf : fnd l a = some i) :
    Calls Tryz.prog 145 #[.slice A 16 c, .int .u16 (a : Int)] w fun e w' => Hands3 w (retP l a) e w' := by
  obtain ⟨⟨b, x⟩, hri, hx0, hba, _⟩ := fnd_some hf
  simp only at hx0 hba
  subst hba
  have hlo := fits_lo (hR.fits i _ hri)
  have hhi := fits_hi (hR.fits i _ hri)
  simp only at hlo hhi
  obtain ⟨B, o, rfl, hB, hcc⟩ : ∃ B o, A = some ⟨B, o, none⟩ ∧ B < w.heap.size ∧ (w.cell? ⟨B, o + i * 2, none⟩ = some (.int .u16 (b : Int)) ∧ w.cell? ⟨B, o + i * 2 + 1, none⟩ = some (.int .i64 x)) := rd_row hr hri
  have hi : i < 16 := by rw [← hn]; exact (List.getElem?_eq_some_iff.1 hri).1
  have hii : (i : Int) < 16 := by omega
  have Hn := Lib.hid hn
  have Hr := Lib.hid hr
  have Hc := Lib.hid hcc
  have hb := rightB_yes hR
  have HF := Lib.hid (fndP_yes hR b)
  have HA := Lib.hid hf
  have HI := Lib.hid hri
  have HL := Lib.hid (fun h => retP_long hR hf hri h)
  have HM := Lib.hid (fun h => retP_more hR hf hri h)
  clear hn hr hR hf hri hcc
  by_cases hx : x = 65535
  · have HP := Lib.hid (HL.out hx)
    clear HL HM
    subst hx
    go_enter Tryz.func145, Tryz.ntmps145
    go_wp2_with (first
      | (go_at_call 32; (with_reducible refine (right_all l _ 16 c _ Hn.out Hr.out).mono ?_); rintro e w1 ⟨he, hb1⟩; obtain rfl := he; rw [hb]; have HB1 := Lib.hid hb1; clear hb1)
      | (go_at_call 188; (with_reducible refine (find_any l _ 16 c b _ Hn.out ((Hr.out.below HB1.out).more HB1.out.size) (by omega)).mono ?_); rintro e w2 ⟨he, hb2⟩; obtain rfl := he; rw [HF.out, HA.out]; have HB2 := Lib.hid (HB1.out.trans (hb2.mono HB1.out.size)); have c0 := (HB2.out.cell hB).trans Hc.out.1; have c1 := (HB2.out.cell hB).trans Hc.out.2; have hB2 := Nat.lt_of_lt_of_le hB HB2.out.size; clear hb2; simp only [fndV, Option.getD_some, Option.isSome_some]))
    go_ret3
    exact hands3_nil HP.out (HB2.out.alloc HB2.out.size _)
  · have HP := Lib.hid (HM.out hx)
    have g0 : (x == 65535) = false := by simp [hx]
    have g1 : IntKind.i64.wrap (x + 1) = x + 1 := by rw [IntKind.wrap_i64]; omega
    clear HL HM
    go_enter Tryz.func145, Tryz.ntmps145
    go_wp2_with (first
      | (go_at_call 32; (with_reducible refine (right_all l _ 16 c _ Hn.out Hr.out).mono ?_); rintro e w1 ⟨he, hb1⟩; obtain rfl := he; rw [hb]; have HB1 := Lib.hid hb1; clear hb1)
      | (go_at_call 188; (with_reducible refine (find_any l _ 16 c b _ Hn.out ((Hr.out.below HB1.out).more HB1.out.size) (by omega)).mono ?_); rintro e w2 ⟨he, hb2⟩; obtain rfl := he; rw [HF.out, HA.out]; have HB2 := Lib.hid (HB1.out.trans (hb2.mono HB1.out.size)); have c0 := (HB2.out.cell hB).trans Hc.out.1; have c1 := (HB2.out.cell hB).trans Hc.out.2; have hB2 := Nat.lt_of_lt_of_le hB HB2.out.size; clear hb2; simp only [fndV, Option.getD_some, Option.isSome_some])
      | (go_at_call 189; (with_reducible refine (with_any l _ c i b (x + 1) _ Hn.out ((Hr.out.below (HB2.out.alloc HB2.out.size _)).more ((HB2.out.alloc HB2.out.size _).size)) hi).mono ?_); rintro e w5 ⟨g, he, hg, hk, hb5⟩; obtain rfl := he; have HK := Lib.hid hk; have HB5 := Lib.hid ((HB2.out.alloc HB2.out.size _).trans (hb5.mono (HB2.out.alloc HB2.out.size _).size)); have hgs := Nat.le_trans (HB2.out.alloc HB2.out.size _).size hg; clear hk hb5 hg))
    go_ret3
    exact hands3_rows HP.out (by rw [List.length_set, Hn.out]) hgs HK.out HB5.out

set_option maxHeartbeats 800000 in
theorem ret_none (l : List Rw) (A : Option Addr) (c a : Nat) (w : World) (hn : l.length = 16) (hr : Rd w w.heap.size A (rowsV l)) (hR : Right l) (hf : fnd l a = none) :
    Calls Tryz.prog 145 #[.slice A 16 c, .int .u16 (a : Int)] w fun e w' => Hands3 w (retP l a) e w' := by
  have Hn := Lib.hid hn
  have Hr := Lib.hid hr
  have hb := rightB_yes hR
  have HF := Lib.hid (fndP_yes hR a)
  have HA := Lib.hid hf
  have HL := Lib.hid (fun h => retP_full hR hf h)
  have HM := Lib.hid (fun i h => retP_new (i := i) hR hf h)
  clear hn hr hR hf
  have hg : l.findIdx? free = freeAt l := rfl
  cases hfr : freeAt l with
  | none =>
    have HP := Lib.hid (HL.out hfr)
    have HG : Hid (l.findIdx? free = none) := Lib.hid (hg.trans hfr)
    clear HL HM hg hfr
    go_enter Tryz.func145, Tryz.ntmps145
    go_wp2_with (first
      | (go_at_call 32; (with_reducible refine (right_all l _ 16 c _ Hn.out Hr.out).mono ?_); rintro e w1 ⟨he, hb1⟩; obtain rfl := he; rw [hb]; have HB1 := Lib.hid hb1; clear hb1)
      | (go_at_call 188; (with_reducible refine (find_any l _ 16 c a _ Hn.out ((Hr.out.below HB1.out).more HB1.out.size) (by omega)).mono ?_); rintro e w2 ⟨he, hb2⟩; obtain rfl := he; rw [HF.out, HA.out]; have HB2 := Lib.hid (HB1.out.trans (hb2.mono HB1.out.size)); clear hb2; simp only [fndV, Option.getD_none, Option.isSome_none])
      | (go_at_call 81; (with_reducible refine (index_free l _ 16 c _ Hn.out ((Hr.out.below HB2.out).more HB2.out.size) (by omega)).mono ?_); rintro e w3 ⟨he, hb3⟩; obtain rfl := he; rw [HG.out]; have HB3 := Lib.hid (HB2.out.trans (hb3.mono HB2.out.size)); clear hb3; simp only [placeI]))
    go_ret3
    exact hands3_nil HP.out HB3.out
  | some i =>
    have hi : i < 16 := by
      obtain ⟨r, h1, _⟩ := freeAt_some hfr
      have := (List.getElem?_eq_some_iff.1 h1).1
      rw [Hn.out] at this
      exact this
    have HP := Lib.hid (HM.out i hfr)
    have HG : Hid (l.findIdx? free = some i) := Lib.hid (hg.trans hfr)
    clear HL HM hg hfr
    go_enter Tryz.func145, Tryz.ntmps145
    go_wp2_with (first
      | (go_at_call 32; (with_reducible refine (right_all l _ 16 c _ Hn.out Hr.out).mono ?_); rintro e w1 ⟨he, hb1⟩; obtain rfl := he; rw [hb]; have HB1 := Lib.hid hb1; clear hb1)
      | (go_at_call 188; (with_reducible refine (find_any l _ 16 c a _ Hn.out ((Hr.out.below HB1.out).more HB1.out.size) (by omega)).mono ?_); rintro e w2 ⟨he, hb2⟩; obtain rfl := he; rw [HF.out, HA.out]; have HB2 := Lib.hid (HB1.out.trans (hb2.mono HB1.out.size)); clear hb2; simp only [fndV, Option.getD_none, Option.isSome_none])
      | (go_at_call 81; (with_reducible refine (index_free l _ 16 c _ Hn.out ((Hr.out.below HB2.out).more HB2.out.size) (by omega)).mono ?_); rintro e w3 ⟨he, hb3⟩; obtain rfl := he; rw [HG.out]; have HB3 := Lib.hid (HB2.out.trans (hb3.mono HB2.out.size)); clear hb3; simp only [placeI])
      | (go_at_call 189; (with_reducible refine (with_any l _ c i a 1 _ Hn.out ((Hr.out.below (HB3.out)).more ((HB3.out).size)) hi).mono ?_); rintro e w5 ⟨g, he, hg, hk, hb5⟩; obtain rfl := he; have HK := Lib.hid hk; have HB5 := Lib.hid ((HB3.out).trans (hb5.mono (HB3.out).size)); have hgs := Nat.le_trans (HB3.out).size hg; clear hk hb5 hg))
    go_ret3
    exact hands3_rows HP.out (by rw [List.length_set, Hn.out]) hgs HK.out HB5.out

/-- Retain. -/
theorem ret_any (l : List Rw) (A : Option Addr) (n c a : Nat) (w : World) (hn : l.length = n) (hr : Rd w w.heap.size A (rowsV l)) :
    Calls Tryz.prog 145 #[.slice A n c, .int .u16 (a : Int)] w fun e w' => Hands3 w (retP l a) e w' := by
  by_cases hR : Right l
  · have h16 := hR.len
    rw [hn] at h16
    subst h16
    cases hf : fnd l a with
    | none => exact ret_none l A c a w hn hr hR hf
    | some i => exact ret_found l A c a i w hn hr hR hf
  · exact ret_no l A n c a w hn hr hR

set_option maxHeartbeats 800000 in
theorem rel_no (l : List Rw) (A : Option Addr) (n c : Nat) (row : Int) (w : World) (hn : l.length = n) (hr : Rd w w.heap.size A (rowsV l)) (hR : ¬ Right l) :
    Calls Tryz.prog 149 #[.slice A n c, .int .i64 row] w fun e w' => Hands2 w (relP l row) e w' := by
  have Hn := Lib.hid hn
  have Hr := Lib.hid hr
  have hb := rightB_no hR
  have HP := Lib.hid (relP_no hR row)
  clear hn hr hR
  go_enter Tryz.func149, Tryz.ntmps149
  go_wp2_with (go_at_call 32; (with_reducible refine (right_all l _ n c _ Hn.out Hr.out).mono ?_); rintro e w1 ⟨he, hb1⟩; obtain rfl := he; rw [hb]; have HB1 := Lib.hid hb1; clear hb1)
  go_ret2
  exact hands2_nil HP.out HB1.out
set_option maxHeartbeats 800000 in
theorem rel_out (l : List Rw) (A : Option Addr) (c : Nat) (row : Int) (w : World) (hn : l.length = 16) (hr : Rd w w.heap.size A (rowsV l)) (hR : Right l) (h : ¬ (0 ≤ row ∧ row < 16)) :
    Calls Tryz.prog 149 #[.slice A 16 c, .int .i64 row] w fun e w' => Hands2 w (relP l row) e w' := by
  have Hn := Lib.hid hn
  have Hr := Lib.hid hr
  have hb := rightB_yes hR
  have HP := Lib.hid (relP_out (l := l) h)
  clear hn hr hR
  by_cases h1 : row < 0
  · clear h
    go_enter Tryz.func149, Tryz.ntmps149
    go_wp2_with (go_at_call 32; (with_reducible refine (right_all l _ 16 c _ Hn.out Hr.out).mono ?_); rintro e w1 ⟨he, hb1⟩; obtain rfl := he; rw [hb]; have HB1 := Lib.hid hb1; clear hb1)
    go_ret2
    exact hands2_nil HP.out HB1.out
  · have h2 : 16 ≤ row := by omega
    clear h
    go_enter Tryz.func149, Tryz.ntmps149
    go_wp2_with (go_at_call 32; (with_reducible refine (right_all l _ 16 c _ Hn.out Hr.out).mono ?_); rintro e w1 ⟨he, hb1⟩; obtain rfl := he; rw [hb]; have HB1 := Lib.hid hb1; clear hb1)
    go_ret2
    exact hands2_nil HP.out HB1.out

set_option maxHeartbeats 800000 in
theorem rel_free (l : List Rw) (A : Option Addr) (c i b : Nat) (w : World) (hn : l.length = 16) (hr : Rd w w.heap.size A (rowsV l)) (hR : Right l) (hri : l[i]? = some ⟨b, 0⟩) :
    Calls Tryz.prog 149 #[.slice A 16 c, .int .i64 (i : Int)] w fun e w' => Hands2 w (relP l (i : Int)) e w' := by
  obtain ⟨B, o, rfl, hB, hcc⟩ : ∃ B o, A = some ⟨B, o, none⟩ ∧ B < w.heap.size ∧ (w.cell? ⟨B, o + i * 2, none⟩ = some (.int .u16 (b : Int)) ∧ w.cell? ⟨B, o + i * 2 + 1, none⟩ = some (.int .i64 0)) := rd_row hr hri
  have hi : i < 16 := by rw [← hn]; exact (List.getElem?_eq_some_iff.1 hri).1
  have hi0 : (0 : Int) ≤ (i : Int) := Int.natCast_nonneg _
  have hii : (i : Int) < 16 := by omega
  have hij : ¬ ((i : Int) < 0) := by omega
  have hik : ¬ ((16 : Int) ≤ (i : Int)) := by omega
  have Hn := Lib.hid hn
  have Hr := Lib.hid hr
  have Hc := Lib.hid hcc
  have hb := rightB_yes hR
  have HP := Lib.hid (relP_free hR hri rfl)
  clear hn hr hR hri hcc
  go_enter Tryz.func149, Tryz.ntmps149
  go_wp2_with (first
    | (go_at_call 32; (with_reducible refine (right_all l _ 16 c _ Hn.out Hr.out).mono ?_); rintro e w1 ⟨he, hb1⟩; obtain rfl := he; rw [hb]; have HB1 := Lib.hid hb1; have c0 := (hb1.cell hB).trans Hc.out.1; have c1 := (hb1.cell hB).trans Hc.out.2; have hB1 := Nat.lt_of_lt_of_le hB hb1.size; clear hb1)
    | (go_at_call 80; (with_reducible refine (isFree_any b 0 _).mono ?_); rintro e w2 ⟨he, hw2⟩; obtain rfl := he; have HB2 := Lib.hid (by subst hw2; exact (HB1.out.alloc HB1.out.size _).alloc (by have := HB1.out.size; simp; omega) _ : Below w.heap.size w w2); clear hw2))
  go_ret2
  exact hands2_nil HP.out HB2.out

set_option maxHeartbeats 800000 in
theorem rel_one (l : List Rw) (A : Option Addr) (c i b : Nat) (w : World) (hn : l.length = 16) (hr : Rd w w.heap.size A (rowsV l)) (hR : Right l) (hri : l[i]? = some ⟨b, 1⟩) :
    Calls Tryz.prog 149 #[.slice A 16 c, .int .i64 (i : Int)] w fun e w' => Hands2 w (relP l (i : Int)) e w' := by
  have hhi := fits_hi (hR.fits i _ hri)
  simp only at hhi
  obtain ⟨B, o, rfl, hB, hcc⟩ : ∃ B o, A = some ⟨B, o, none⟩ ∧ B < w.heap.size ∧ (w.cell? ⟨B, o + i * 2, none⟩ = some (.int .u16 (b : Int)) ∧ w.cell? ⟨B, o + i * 2 + 1, none⟩ = some (.int .i64 1)) := rd_row hr hri
  have hi : i < 16 := by rw [← hn]; exact (List.getElem?_eq_some_iff.1 hri).1
  have hi0 : (0 : Int) ≤ (i : Int) := Int.natCast_nonneg _
  have hii : (i : Int) < 16 := by omega
  have hij : ¬ ((i : Int) < 0) := by omega
  have hik : ¬ ((16 : Int) ≤ (i : Int)) := by omega
  have Hn := Lib.hid hn
  have Hr := Lib.hid hr
  have Hc := Lib.hid hcc
  have hb := rightB_yes hR
  have HP := Lib.hid ((relP_yes hR hri (by show (1 : Int) ≠ 0; decide)).trans (by rfl : _ = (⟨l.set i .z, 0, 0⟩ : Res)))
  clear hn hr hR hri hcc
  go_enter Tryz.func149, Tryz.ntmps149
  go_wp2_with (first
    | (go_at_call 32; (with_reducible refine (right_all l _ 16 c _ Hn.out Hr.out).mono ?_); rintro e w1 ⟨he, hb1⟩; obtain rfl := he; rw [hb]; have HB1 := Lib.hid hb1; have c0 := (hb1.cell hB).trans Hc.out.1; have c1 := (hb1.cell hB).trans Hc.out.2; have hB1 := Nat.lt_of_lt_of_le hB hb1.size; clear hb1)
    | (go_at_call 80; (with_reducible refine (isFree_any b 1 _).mono ?_); rintro e w2 ⟨he, hw2⟩; obtain rfl := he; have K2 : Bk w2 w1.heap.size 68 [.int .u16 (b : Int), .int .i64 1] := (by subst hw2; exact (Bk.new w1 68 [.int .u16 (b : Int), .int .i64 1]).below (alloc_below _ _) (by simp)); have HB2 := Lib.hid (by subst hw2; exact (HB1.out.alloc HB1.out.size _).alloc (by have := HB1.out.size; simp; omega) _ : Below w.heap.size w w2); have d0 := K2.cell 0; have d1 := K2.cell 1; have f0 := K2.frozen 0; have f1 := K2.frozen 1; have hs2 := K2.lt; have HK2 := Lib.hid K2; clear hw2 K2)
    | (go_at_call 80; (with_reducible refine (isFree_any b 0 _).mono ?_); rintro e w3 ⟨he, hw3⟩; obtain rfl := he; have K3 : Bk w3 w1.heap.size 68 [.int .u16 (b : Int), .int .i64 0] := (by subst hw3; exact (HK2.out.set 1 (.int .i64 0)).below (alloc_below _ _) (HK2.out.set 1 (.int .i64 0)).lt); have HB3 := Lib.hid (by subst hw3; exact (HB2.out.setCell (p := ⟨w1.heap.size, 1, none⟩) HB1.out.size _).alloc (by have := HB2.out.size; simp [World.setCell]; omega) _ : Below w.heap.size w w3); have k0 := K3.cell 0; have k1 := K3.cell 1; have j0 := K3.frozen 0; have hs3 := K3.lt; clear hw3 K3)
    | (go_at_call 189; (with_reducible refine (with_zero l _ c i _ Hn.out ((Hr.out.below (HB3.out.setCell (p := ⟨w1.heap.size, 0, none⟩) HB1.out.size (.int .u16 0))).more ((HB3.out.setCell (p := ⟨w1.heap.size, 0, none⟩) HB1.out.size (.int .u16 0)).size)) hi).mono ?_); rintro e w5 ⟨g, he, hg, hk, hb5⟩; obtain rfl := he; have HK := Lib.hid hk; have HB5 := Lib.hid ((HB3.out.setCell (p := ⟨w1.heap.size, 0, none⟩) HB1.out.size (.int .u16 0)).trans (hb5.mono (HB3.out.setCell (p := ⟨w1.heap.size, 0, none⟩) HB1.out.size (.int .u16 0)).size)); have hgs := Nat.le_trans (HB3.out.setCell (p := ⟨w1.heap.size, 0, none⟩) HB1.out.size (.int .u16 0)).size hg; clear hk hb5 hg))
  go_ret2
  exact hands2_rows HP.out (by rw [List.length_set, Hn.out]) hgs HK.out HB5.out

set_option maxHeartbeats 800000 in
theorem rel_more (l : List Rw) (A : Option Addr) (c i b : Nat) (x : Int) (w : World) (hn : l.length = 16) (hr : Rd w w.heap.size A (rowsV l)) (hR : Right l) (hri : l[i]? = some ⟨b, x⟩) (h1 : 1 < x) :
    Calls Tryz.prog 149 #[.slice A 16 c, .int .i64 (i : Int)] w fun e w' => Hands2 w (relP l (i : Int)) e w' := by
  have hhi := fits_hi (hR.fits i _ hri)
  simp only at hhi
  obtain ⟨B, o, rfl, hB, hcc⟩ : ∃ B o, A = some ⟨B, o, none⟩ ∧ B < w.heap.size ∧ (w.cell? ⟨B, o + i * 2, none⟩ = some (.int .u16 (b : Int)) ∧ w.cell? ⟨B, o + i * 2 + 1, none⟩ = some (.int .i64 x)) := rd_row hr hri
  have hi : i < 16 := by rw [← hn]; exact (List.getElem?_eq_some_iff.1 hri).1
  have hi0 : (0 : Int) ≤ (i : Int) := Int.natCast_nonneg _
  have hii : (i : Int) < 16 := by omega
  have hij : ¬ ((i : Int) < 0) := by omega
  have hik : ¬ ((16 : Int) ≤ (i : Int)) := by omega
  have Hn := Lib.hid hn
  have Hr := Lib.hid hr
  have Hc := Lib.hid hcc
  have hb := rightB_yes hR
  have HP := Lib.hid ((relP_yes hR hri (by show x ≠ 0; omega)).trans (by unfold Rw.less; rw [if_neg (by show ¬ x = 1; omega)] : _ = (⟨l.set i ⟨b, x - 1⟩, 0, 0⟩ : Res)))
  clear hn hr hR hri hcc
  have g0 : (x == 0) = false := by simp; omega
  have g1 : (x - 1 == 0) = false := by simp; omega
  have g2 : IntKind.i64.wrap (x - 1) = x - 1 := by rw [IntKind.wrap_i64]; omega
  go_enter Tryz.func149, Tryz.ntmps149
  go_wp2_with (first
    | (go_at_call 32; (with_reducible refine (right_all l _ 16 c _ Hn.out Hr.out).mono ?_); rintro e w1 ⟨he, hb1⟩; obtain rfl := he; rw [hb]; have HB1 := Lib.hid hb1; have c0 := (hb1.cell hB).trans Hc.out.1; have c1 := (hb1.cell hB).trans Hc.out.2; have hB1 := Nat.lt_of_lt_of_le hB hb1.size; clear hb1)
    | (go_at_call 80; (with_reducible refine (isFree_any b x _).mono ?_); rintro e w2 ⟨he, hw2⟩; obtain rfl := he; have K2 : Bk w2 w1.heap.size 68 [.int .u16 (b : Int), .int .i64 x] := (by subst hw2; exact (Bk.new w1 68 [.int .u16 (b : Int), .int .i64 x]).below (alloc_below _ _) (by simp)); have HB2 := Lib.hid (by subst hw2; exact (HB1.out.alloc HB1.out.size _).alloc (by have := HB1.out.size; simp; omega) _ : Below w.heap.size w w2); have d0 := K2.cell 0; have d1 := K2.cell 1; have f0 := K2.frozen 0; have f1 := K2.frozen 1; have hs2 := K2.lt; have HK2 := Lib.hid K2; clear hw2 K2)
    | (go_at_call 80; (with_reducible refine (isFree_any b (x - 1) _).mono ?_); rintro e w3 ⟨he, hw3⟩; obtain rfl := he; have K3 : Bk w3 w1.heap.size 68 [.int .u16 (b : Int), .int .i64 (x - 1)] := (by subst hw3; exact (HK2.out.set 1 (.int .i64 (x - 1))).below (alloc_below _ _) (HK2.out.set 1 (.int .i64 (x - 1))).lt); have HB3 := Lib.hid (by subst hw3; exact (HB2.out.setCell (p := ⟨w1.heap.size, 1, none⟩) HB1.out.size _).alloc (by have := HB2.out.size; simp [World.setCell]; omega) _ : Below w.heap.size w w3); have k0 := K3.cell 0; have k1 := K3.cell 1; have j0 := K3.frozen 0; have hs3 := K3.lt; clear hw3 K3)
    | (go_at_call 189; (with_reducible refine (with_any l _ c i b (x - 1) _ Hn.out ((Hr.out.below (HB3.out)).more ((HB3.out).size)) hi).mono ?_); rintro e w5 ⟨g, he, hg, hk, hb5⟩; obtain rfl := he; have HK := Lib.hid hk; have HB5 := Lib.hid ((HB3.out).trans (hb5.mono (HB3.out).size)); have hgs := Nat.le_trans (HB3.out).size hg; clear hk hb5 hg))
  go_ret2
  exact hands2_rows HP.out (by rw [List.length_set, Hn.out]) hgs HK.out HB5.out

/-- Release. -/
theorem rel_any (l : List Rw) (A : Option Addr) (n c : Nat) (row : Int) (w : World) (hn : l.length = n) (hr : Rd w w.heap.size A (rowsV l)) :
    Calls Tryz.prog 149 #[.slice A n c, .int .i64 row] w fun e w' => Hands2 w (relP l row) e w' := by
  by_cases hR : Right l
  · have h16 := hR.len
    rw [hn] at h16
    subst h16
    by_cases h : 0 ≤ row ∧ row < 16
    · obtain ⟨i, rfl⟩ : ∃ i : Nat, row = (i : Int) := ⟨row.toNat, by omega⟩
      obtain ⟨⟨b, x⟩, hri⟩ : ∃ r, l[i]? = some r := ⟨_, List.getElem?_eq_getElem (by omega)⟩
      have hlo := fits_lo (hR.fits i _ hri)
      simp only at hlo
      rcases Int.lt_trichotomy x 1 with hx | rfl | hx
      · obtain rfl : x = 0 := by omega
        exact rel_free l A c i b w hn hr hR hri
      · exact rel_one l A c i b w hn hr hR hri
      · exact rel_more l A c i b x w hn hr hR hri hx
    · exact rel_out l A c row w hn hr hR h
  · exact rel_no l A n c row w hn hr hR
end Go.Proofs.YtcjkbmmjpkghlaaGreat.Intern

/-
  Appending rows; the document's Retain and Release.
-/
namespace Go.Proofs.YtcjkbmmjpkghlaaGreat.Intern
open Go.RowKit

theorem run_rows_none {P : Program} (w : World) (base : Nat) (t ty e : TypeId) (size : Nat) (i : TypeInfo) (ht : P.underlying t = some (.slice e)) (hi : P.info? e = some i)
    (v : Value) (n : Nat) (xs : List Value) (hown : w.ownsRow base e size v n xs) (c : Nat) : (Builtin.append_ #[t, t] ty #[v, .slice none 0 c]).run P w = .ok v w := by
  rcases hown.2 with ⟨rfl, rfl⟩ | ⟨g, cap, cur, rfl, _, _, hnc, _⟩
  · simp [Builtin.append_, run_underlying ht, sizeOf, typeInfo, hi, Builtin.lenOf, Builtin.firstCells]
  · simp [Builtin.append_, run_underlying ht, sizeOf, typeInfo, hi, Builtin.lenOf, Builtin.firstCells, hnc, storeCells]

theorem run_rows (w : World) (base : Nat) (ty : TypeId) (v : Value) (k : List Rw) (hown : w.ownsRow base 68 2 v k.length (rowsV k))
    (B : Nat) (A : Option Addr) (m c : Nat) (l : List Rw) (hm : l.length = m) (hr : Rd w B A (rowsV l)) (h63 : k.length + m ≤ 1000000) (hbase : base ≤ w.heap.size) :
    ∃ v' w', (Builtin.append_ #[56, 56] ty #[v, .slice A m c]).run Tryz.prog w = .ok v' w' ∧ w'.ownsRow base 68 2 v' (k ++ l).length (rowsV (k ++ l)) ∧ w.grownBy w' v.ownBlock := by
  obtain ⟨i0, hi, hz0, hz1, hz2⟩ := info_parts info37
  cases A with
  | none =>
    have hn : rowsV l = [] := by
      rcases hr with h | ⟨_, _, h, _⟩
      · exact h
      · cases h
    have h0 : l = [] := rowsV_inj (m := []) hn
    subst h0
    obtain rfl : m = 0 := by simpa using hm.symm
    exact ⟨v, w, run_rows_none w base 56 ty 68 2 i0 Tryz.underlying56 hi v _ _ hown c, by simpa using hown, World.grownBy.refl w _⟩
  | some ad =>
    obtain ⟨v', w', hrun, h2, h3, _⟩ := run_append_own (P := Tryz.prog) w base 56 ty 68 i0 (.agg #[.int .u16 0, .int .i64 0]) 2 16 Tryz.underlying56 hi hz0 hz1 hz2 rfl (by omega) v k.length (rowsV k) hown ad m c (rowsV l) (by rw [length_rowsV, hm]) (by
      rcases hr with h | ⟨b, o, h, _, hc⟩
      · rw [h]
        intro j u hu
        simp at hu
      · injection h with h
        subst h
        intro j u hu
        rw [Addr.add_lit]
        exact hc j u hu) (rowsV_one l) (by unfold maxLen; omega) (by omega) hbase
    refine ⟨v', w', hrun, ?_, h3⟩
    rw [List.length_append, hm, rowsV_append]
    exact h2

theorem wpList_rows (w : World) {ops : Array Oper} {rest : List Oper} {o : Oper} {a : Act} {Q : Exit → Act → World → Prop} (hgd : o.guard = none) (s x : Operand)
    (ho : o.op = .call { callee := .builtin .append, args := #[s, x], argTypes := #[56, 56] })
    (base : Nat) (v : Value) (k : List Rw) (hs : a.eval s = v) (hown : w.ownsRow base 68 2 v k.length (rowsV k))
    (B : Nat) (A : Option Addr) (m c : Nat) (l : List Rw) (hx : a.eval x = .slice A m c) (hm : l.length = m) (hr : Rd w B A (rowsV l)) (h63 : k.length + m ≤ 1000000) (hbase : base ≤ w.heap.size)
    (h : ∀ v' w', w'.ownsRow base 68 2 v' (k ++ l).length (rowsV (k ++ l)) → w.grownBy w' v.ownBlock → wpList Tryz.prog ops Q rest (a.put o.dst v') w') : wpList Tryz.prog ops Q (o :: rest) a w := by
  refine wpList_plain hgd fun K hK => ?_
  obtain ⟨v', w', hrun, h2, h3⟩ := run_rows w base o.type v k hown B A m c l hm hr h63 hbase
  unfold Oper.wp execOp
  simp only [ho, resolve, invoke, builtin, Sem.run_bind, Sem.run_pure, Result.andThen_ok, List.map_toArray, List.map_cons, List.map_nil, hs, hx, hrun]
  exact hK _ _ (h v' w' h2 h3)

/-- 'append([]api.Row{}, x...)'. -/
theorem wpList_fresh (w : World) {ops : Array Oper} {rest : List Oper} {o : Oper} {a : Act} {Q : Exit → Act → World → Prop} (hgd : o.guard = none) (s x : Operand)
    (ho : o.op = .call { callee := .builtin .append, args := #[s, x], argTypes := #[56, 56] })
    (w0 : World) (hw : w = w0.alloc (.cells #[] 68)) (hs : a.eval s = .slice (some ⟨w0.heap.size, 0, none⟩) 0 0)
    (A : Option Addr) (m c : Nat) (l : List Rw) (hx : a.eval x = .slice A m c) (hm : l.length = m) (hr : Rd w0 w0.heap.size A (rowsV l)) (h63 : m ≤ 1000000)
    (h : ∀ v' w', w'.ownsRow w0.heap.size 68 2 v' m (rowsV l) → Below w0.heap.size w0 w' → wpList Tryz.prog ops Q rest (a.put o.dst v') w') : wpList Tryz.prog ops Q (o :: rest) a w := by
  have hb := alloc_below w0 (.cells #[] 68)
  have hk : w.ownsRow w0.heap.size 68 2 (.slice (some ⟨w0.heap.size, 0, none⟩) 0 0) ([] : List Rw).length (rowsV []) := by
    subst hw
    exact World.ownsRow_lit w0 #[] 0 (Nat.le_refl _) (by decide) rfl
  subst hw
  refine wpList_rows _ hgd s x ho w0.heap.size _ [] hs hk _ A m c l hx hm (hr.below hb) (by simpa using h63) hb.size fun v' w' h1 h2 => h v' w' ?_ ?_
  · simpa [hm] using h1
  · exact hb.grown h2 hb.size (by
      intro k hk
      simp only [Value.ownBlock, Option.some.injEq] at hk
      omega)

/-- A row of sixteen, as it lies. -/
theorem own16 {w : World} {base : Nat} {v : Value} {l : List Rw} (h : w.ownsRow base 68 2 v 16 (rowsV l)) : ∃ g c, v = .slice (some ⟨g, 0, none⟩) 16 c ∧ base ≤ g := by
  rcases h.2 with ⟨_, h0⟩ | ⟨g, cap, _, hv, hb, _⟩
  · omega
  · exact ⟨g, cap, hv, hb⟩
theorem own_cells {w : World} {base g c : Nat} {l : List Rw} (h : w.ownsRow base 68 2 (.slice (some ⟨g, 0, none⟩) 16 c) 16 (rowsV l)) {i : Nat} {r : Rw} (hi : l[i]? = some r) :
    w.cell? ⟨g, i * 2, none⟩ = some (.int .u16 (r.lab : Int)) ∧ w.cell? ⟨g, i * 2 + 1, none⟩ = some (.int .i64 r.refs) ∧ w.frozen? ⟨g, i * 2, none⟩ = false ∧ w.frozen? ⟨g, i * 2 + 1, none⟩ = false ∧ g < w.heap.size := by
  obtain ⟨h1, h2⟩ := rowsV_get l i r hi
  have hl : l.length * 2 = 32 := by have := h.1; rw [length_rowsV] at this; omega
  have hlt : i < l.length := (List.getElem?_eq_some_iff.1 hi).1
  have hg : g < w.heap.size := (h.lt g rfl).2
  exact ⟨(h.cellAt _ (by omega)).trans h1, (h.cellAt _ (by omega)).trans h2, h.frozenAt _, h.frozenAt _, hg⟩
/-- A store to a row's refs. -/
theorem own_refs {w : World} {base g c : Nat} {l : List Rw} (h : w.ownsRow base 68 2 (.slice (some ⟨g, 0, none⟩) 16 c) 16 (rowsV l)) {i : Nat} {r : Rw} (hi : l[i]? = some r) (x : Int) :
    (w.setCell ⟨g, i * 2 + 1, none⟩ (.int .i64 x)).ownsRow base 68 2 (.slice (some ⟨g, 0, none⟩) 16 c) 16 (rowsV (l.set i ⟨r.lab, x⟩)) := by
  have h1 := (h.stored (i * 2 + 1) (.int .i64 x)).1
  have hlt : i < l.length := (List.getElem?_eq_some_iff.1 hi).1
  rw [rowsV_set l i _ hlt]
  have e : (rowsV l).set (i * 2) (.int .u16 (r.lab : Int)) = rowsV l := by
    obtain ⟨h2, h3⟩ := List.getElem?_eq_some_iff.1 (rowsV_get l i r hi).1
    rw [← h3]
    exact List.set_getElem_self h2
  rw [e]
  exact h1
theorem own_row {w : World} {base g c : Nat} {l : List Rw} (h : w.ownsRow base 68 2 (.slice (some ⟨g, 0, none⟩) 16 c) 16 (rowsV l)) {i : Nat} (hi : i < l.length) (a : Nat) (x : Int) :
    ((w.setCell ⟨g, i * 2, none⟩ (.int .u16 (a : Int))).setCell ⟨g, i * 2 + 1, none⟩ (.int .i64 x)).ownsRow base 68 2 (.slice (some ⟨g, 0, none⟩) 16 c) 16 (rowsV (l.set i ⟨a, x⟩)) := by
  rw [rowsV_set l i _ hi]
  exact ((h.stored (i * 2) (.int .u16 (a : Int))).1.stored (i * 2 + 1) (.int .i64 x)).1
end Go.Proofs.YtcjkbmmjpkghlaaGreat.Intern
