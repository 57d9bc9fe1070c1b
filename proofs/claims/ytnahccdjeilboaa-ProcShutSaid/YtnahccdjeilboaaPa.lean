/-
  Processes with labels and open files, on paper: what each call answers and what it makes of them.
  No condition is set.
-/
import Derived.Test.YtnahccdjeilboaaA
namespace Go.Proofs.Ytnahccdjeilboaa.Prc

/-- Processes, their labels, and what they have open: file fd of process p has number p * 8 + fd. -/
structure Tb where
  n : Nat
  lab : Nat → Nat
  fil : Nat → Option (Int × Int)

structure Tb.Ok (t : Tb) : Prop where
  lo : 1 ≤ t.n
  hi : t.n ≤ 8
  lab : ∀ p, t.lab p < 65536
  zero : ∀ k, t.n * 8 ≤ k → t.fil k = none
  rng : ∀ k x, t.fil k = some x → 0 ≤ x.1 ∧ x.1 ≤ 63

/-- With another value at one place. -/
def upd {α : Type} (f : Nat → α) (k : Nat) (v : α) : Nat → α := fun m => if m = k then v else f m
theorem upd_same {α : Type} (f : Nat → α) (k : Nat) (v : α) : upd f k v k = v := if_pos rfl
theorem upd_other {α : Type} (f : Nat → α) {k m : Nat} (v : α) (h : m ≠ k) : upd f k v m = f m := if_neg h

def empty (n : Nat) : Tb := ⟨n, fun _ => 0, fun _ => none⟩
theorem empty_ok {n : Nat} (h1 : 1 ≤ n) (h2 : n ≤ 8) : (empty n).Ok := ⟨h1, h2, fun _ => by simp [empty], fun _ _ => rfl, fun _ _ h => by cases h⟩

def hasB (n : Nat) (p : Int) : Bool := decide (0 ≤ p) && decide (p < (n : Int))
def fdB (fd : Int) : Bool := decide (0 ≤ fd) && decide (fd < 8)
def ix (p fd : Int) : Nat := p.toNat * 8 + fd.toNat
theorem has_nat {n : Nat} {p : Int} (h : hasB n p = true) : ∃ q : Nat, p = (q : Int) ∧ q < n := by
  simp only [hasB, Bool.and_eq_true, decide_eq_true_eq] at h
  exact ⟨p.toNat, by omega, by omega⟩
theorem has_of {n q : Nat} (h : q < n) : hasB n (q : Int) = true := by
  simp only [hasB, Bool.and_eq_true, decide_eq_true_eq]
  omega
theorem has_not {n : Nat} {p : Int} (h : hasB n p = false) : p < 0 ∨ (0 ≤ p ∧ (n : Int) ≤ p) := by
  simp only [hasB, Bool.and_eq_false_iff, decide_eq_false_iff_not] at h
  omega
theorem fd_nat {p : Int} (h : fdB p = true) : ∃ q : Nat, p = (q : Int) ∧ q < 8 := by
  simp only [fdB, Bool.and_eq_true, decide_eq_true_eq] at h
  exact ⟨p.toNat, by omega, by omega⟩
theorem fd_of {q : Nat} (h : q < 8) : fdB (q : Int) = true := by
  simp only [fdB, Bool.and_eq_true, decide_eq_true_eq]
  omega
theorem fd_not {p : Int} (h : fdB p = false) : p < 0 ∨ (0 ≤ p ∧ 8 ≤ p) := by
  simp only [fdB, Bool.and_eq_false_iff, decide_eq_false_iff_not] at h
  omega
theorem ix_nat (p fd : Nat) : ix (p : Int) (fd : Int) = p * 8 + fd := by simp [ix]

/-- What is open there. -/
def Tb.at_ (t : Tb) (p fd : Int) : Option (Int × Int) := if hasB t.n p && fdB fd then t.fil (ix p fd) else none
/-- Why nothing is. -/
def Tb.why (t : Tb) (p fd : Int) : Int := if hasB t.n p then (if (t.at_ p fd).isSome then 0 else 2) else 1
theorem at_some {t : Tb} {p fd : Int} {x : Int × Int} (h : t.at_ p fd = some x) : ∃ q k : Nat, p = (q : Int) ∧ fd = (k : Int) ∧ q < t.n ∧ k < 8 ∧ t.fil (q * 8 + k) = some x ∧ ix p fd = q * 8 + k := by
  unfold Tb.at_ at h
  split at h
  · rename_i h1
    rw [Bool.and_eq_true] at h1
    obtain ⟨q, rfl, hq⟩ := has_nat h1.1
    obtain ⟨k, rfl, hk⟩ := fd_nat h1.2
    rw [ix_nat] at h ⊢
    exact ⟨q, k, rfl, rfl, hq, hk, h, rfl⟩
  · cases h
theorem at_none {t : Tb} {p fd : Int} (h : t.at_ p fd = none) : (hasB t.n p = false ∧ t.why p fd = 1) ∨ (t.why p fd = 2 ∧ ∃ q : Nat, p = (q : Int) ∧ q < t.n ∧ (fdB fd = false ∨ ∃ k : Nat, fd = (k : Int) ∧ k < 8 ∧ t.fil (q * 8 + k) = none)) := by
  cases h1 : hasB t.n p
  · exact .inl ⟨rfl, by simp [Tb.why, h1]⟩
  · refine .inr ⟨by simp [Tb.why, h1, h], ?_⟩
    obtain ⟨q, rfl, hq⟩ := has_nat h1
    refine ⟨q, rfl, hq, ?_⟩
    cases h2 : fdB fd
    · exact .inl rfl
    · obtain ⟨k, rfl, hk⟩ := fd_nat h2
      simp only [Tb.at_, h1, h2, Bool.and_self, if_true, ix_nat] at h
      exact .inr ⟨k, rfl, hk, h⟩
theorem why_some {t : Tb} {p fd : Int} {x : Int × Int} (h : t.at_ p fd = some x) : t.why p fd = 0 := by
  obtain ⟨q, k, rfl, rfl, hq, hk, -⟩ := at_some h
  simp [Tb.why, h, has_of hq]

/-- The first place of eight with nothing. -/
def lowG (f : Nat → Option (Int × Int)) (b : Nat) : Nat → Nat
  | 0 => 0
  | m + 1 => if lowG f b m < m then lowG f b m else if f (b + m) = none then m else m + 1
theorem lowG_spec (f : Nat → Option (Int × Int)) (b m : Nat) : lowG f b m ≤ m ∧ (∀ i, i < lowG f b m → f (b + i) ≠ none) ∧ (lowG f b m < m → f (b + lowG f b m) = none) := by
  induction m with
  | zero => exact ⟨Nat.le_refl _, fun i hi => absurd hi (Nat.not_lt_zero _), fun h => absurd h (Nat.not_lt_zero _)⟩
  | succ m ih =>
    obtain ⟨h1, h2, h3⟩ := ih
    unfold lowG
    by_cases hl : lowG f b m < m
    · rw [if_pos hl]
      exact ⟨by omega, h2, fun _ => h3 hl⟩
    · rw [if_neg hl]
      have he : lowG f b m = m := by omega
      rw [he] at h2
      by_cases hf : f (b + m) = none
      · rw [if_pos hf]
        exact ⟨by omega, h2, fun _ => hf⟩
      · rw [if_neg hf]
        refine ⟨Nat.le_refl _, fun i hi => ?_, fun h => absurd h (Nat.lt_irrefl _)⟩
        rcases Nat.lt_or_ge i m with h | h
        · exact h2 i h
        · obtain rfl : i = m := by omega
          exact hf
def low (f : Nat → Option (Int × Int)) (b : Nat) : Nat := lowG f b 8
theorem low_le (f : Nat → Option (Int × Int)) (b : Nat) : low f b ≤ 8 := (lowG_spec f b 8).1
theorem low_lt {f : Nat → Option (Int × Int)} {b i : Nat} (h : i < low f b) : f (b + i) ≠ none := (lowG_spec f b 8).2.1 i h
theorem low_at {f : Nat → Option (Int × Int)} {b : Nat} (h : low f b < 8) : f (b + low f b) = none := (lowG_spec f b 8).2.2 h
theorem low_eq {f : Nat → Option (Int × Int)} {b j : Nat} (hj : j ≤ 8) (h1 : ∀ i, i < j → f (b + i) ≠ none) (h2 : j < 8 → f (b + j) = none) : low f b = j := by
  have hl := low_le f b
  rcases Nat.lt_trichotomy (low f b) j with h | h | h
  · exact absurd (low_at (by omega)) (h1 _ h)
  · exact h
  · exact absurd (h2 (by omega)) (low_lt h)

def labelA (t : Tb) (p : Int) : Int × Int := if hasB t.n p then ((t.lab p.toNat : Int), 0) else (0, 1)
def raiseA (t : Tb) (p : Int) (a : Nat) : Int × Tb := if hasB t.n p then (if flowB (t.lab p.toNat) a then (0, { t with lab := upd t.lab p.toNat a }) else (7, t)) else (1, t)
def inoB (i : Int) : Bool := decide (0 ≤ i) && decide (i < 64)
def openA (t : Tb) (p i : Int) : Int × Int × Tb :=
  if hasB t.n p && inoB i then (if low t.fil (p.toNat * 8) < 8 then ((low t.fil (p.toNat * 8) : Int), 0, { t with fil := upd t.fil (p.toNat * 8 + low t.fil (p.toNat * 8)) (some (i, 0)) }) else (0, 5, t)) else (0, 1, t)
def closeA (t : Tb) (p fd : Int) : Int × Int × Tb :=
  match t.at_ p fd with
  | some x => (x.1, 0, { t with fil := upd t.fil (ix p fd) none })
  | none => (0, t.why p fd, t)
def fdA (t : Tb) (p fd : Int) : (Int × Int) × Int :=
  match t.at_ p fd with
  | some x => (x, 0)
  | none => ((0, 0), t.why p fd)
def plB (a : Int) : Bool := decide (0 ≤ a) && decide (a ≤ 3840)
def moveA (t : Tb) (p fd a : Int) : Int × Tb :=
  match t.at_ p fd with
  | some x => if plB a then (0, { t with fil := upd t.fil (ix p fd) (some (x.1, a)) }) else (1, t)
  | none => (t.why p fd, t)
/-- Is it that inode? -/
def hit (i : Int) (x : Option (Int × Int)) : Bool := match x with
  | some y => decide (y.1 = i)
  | none => false
/-- How many of the first m. -/
def cnt (t : Tb) (i : Int) (m : Nat) : Nat := (List.range m).countP fun k => hit i (t.fil k)
theorem cnt_succ (t : Tb) (i : Int) (m : Nat) : cnt t i (m + 1) = cnt t i m + if hit i (t.fil m) then 1 else 0 := by
  unfold cnt
  rw [List.range_succ, List.countP_append]
  simp [List.countP_cons]
theorem cnt_le (t : Tb) (i : Int) (m : Nat) : cnt t i m ≤ m := by
  have := List.countP_le_length (p := fun k => hit i (t.fil k)) (l := List.range m)
  simpa [cnt] using this
def holdsA (t : Tb) (i : Int) : Nat := cnt t i 64
theorem cnt_more {t : Tb} (h : t.Ok) (i : Int) {m : Nat} (hm : t.n * 8 ≤ m) : cnt t i m = cnt t i (t.n * 8) := by
  induction m with
  | zero => rw [show t.n * 8 = 0 by omega]
  | succ m ih =>
    rcases Nat.lt_or_ge m (t.n * 8) with h1 | h1
    · rw [show t.n * 8 = m + 1 by omega]
    · rw [cnt_succ, h.zero m h1, ih h1]
      simp [hit]
theorem holds_some {t : Tb} (h : t.Ok) (i : Int) : holdsA t i = cnt t i (t.n * 8) := cnt_more h i (by have := h.hi; omega)

theorem raise_ok {t : Tb} (h : t.Ok) (p : Int) {a : Nat} (ha : a < 65536) : (raiseA t p a).2.Ok := by
  unfold raiseA
  split
  · split
    · refine ⟨h.lo, h.hi, fun q => ?_, h.zero, h.rng⟩
      show upd t.lab p.toNat a q < _
      unfold upd
      split
      · exact ha
      · exact h.lab q
    · exact h
  · exact h
theorem fil_ok {t : Tb} (h : t.Ok) {k : Nat} (hk : k < t.n * 8) (x : Option (Int × Int)) (hx : ∀ y, x = some y → 0 ≤ y.1 ∧ y.1 ≤ 63) : ({ t with fil := upd t.fil k x } : Tb).Ok := by
  refine ⟨h.lo, h.hi, h.lab, fun m hm => ?_, fun m y hy => ?_⟩
  · have hm' : t.n * 8 ≤ m := hm
    show upd t.fil k x m = none
    rw [upd_other _ _ (by omega)]
    exact h.zero m hm'
  · have hy' : upd t.fil k x m = some y := hy
    unfold upd at hy'
    split at hy'
    · exact hx y hy'
    · exact h.rng m y hy'
theorem open_ok {t : Tb} (h : t.Ok) (p i : Int) : (openA t p i).2.2.Ok := by
  unfold openA
  split
  · rename_i h1
    rw [Bool.and_eq_true] at h1
    split
    · rename_i h2
      obtain ⟨q, rfl, hq⟩ := has_nat h1.1
      refine fil_ok h ?_ _ fun y hy => ?_
      · simp only [Int.toNat_natCast] at h2 ⊢
        have := h.hi
        omega
      · cases hy
        have := h1.2
        simp only [inoB, Bool.and_eq_true, decide_eq_true_eq] at this
        show 0 ≤ i ∧ i ≤ 63
        omega
    · exact h
  · exact h
theorem close_ok {t : Tb} (h : t.Ok) (p fd : Int) : (closeA t p fd).2.2.Ok := by
  unfold closeA
  split
  · rename_i x h1
    obtain ⟨q, k, rfl, rfl, hq, hk, h2, h3⟩ := at_some h1
    rw [h3]
    have := h.hi
    exact fil_ok h (by omega) _ (by intro y hy; cases hy)
  · exact h
theorem move_ok {t : Tb} (h : t.Ok) (p fd a : Int) : (moveA t p fd a).2.Ok := by
  unfold moveA
  split
  · rename_i x h1
    obtain ⟨q, k, rfl, rfl, hq, hk, h2, h3⟩ := at_some h1
    split
    · rw [h3]
      have := h.hi
      refine fil_ok h (by omega) _ fun y hy => ?_
      cases hy
      exact h.rng _ x h2
    · exact h
  · exact h
theorem raise_n (t : Tb) (p : Int) (a : Nat) : (raiseA t p a).2.n = t.n := by unfold raiseA; split <;> (try split) <;> rfl
theorem open_n (t : Tb) (p i : Int) : (openA t p i).2.2.n = t.n := by unfold openA; split <;> (try split) <;> rfl
theorem close_n (t : Tb) (p fd : Int) : (closeA t p fd).2.2.n = t.n := by unfold closeA; split <;> rfl
theorem move_n (t : Tb) (p fd a : Int) : (moveA t p fd a).2.n = t.n := by unfold moveA; split <;> (try split) <;> rfl

/-- What is done. -/
structure Act where
  kind : Nat
  p : Int
  fd : Int
  n : Int
  label : Nat
def doesA (t : Tb) (a : Act) : Int × Int × Tb :=
  if a.kind % 4 = 0 then (0, raiseA t a.p a.label)
  else if a.kind % 4 = 1 then openA t a.p a.n
  else if a.kind % 4 = 2 then closeA t a.p a.fd
  else (0, moveA t a.p a.fd a.n)
theorem does_ok {t : Tb} (h : t.Ok) {a : Act} (ha : a.label < 65536) : (doesA t a).2.2.Ok := by
  unfold doesA
  split
  · exact raise_ok h _ ha
  · split
    · exact open_ok h _ _
    · split
      · exact close_ok h _ _
      · exact move_ok h _ _ _
theorem does_n (t : Tb) (a : Act) : (doesA t a).2.2.n = t.n := by
  unfold doesA
  split
  · exact raise_n t _ _
  · split
    · exact open_n t _ _
    · split
      · exact close_n t _ _
      · exact move_n t _ _ _
end Go.Proofs.Ytnahccdjeilboaa.Prc
