/-
  Plain facts on the texts of labels: numbers between separators; which numbers stand in a text, by the program's way and by the document's; both lead a label's text back to the label. No program occurs here.
-/
import Derived.Test.YtkihhhcjmlcmpaaDoorA
import Derived.Lib.ItoaNum
import Derived.Lib.IndexMore
import Derived.Lib.SlTrimSet
namespace Go.Proofs.YtkihhhcjmlcmpaaDoor
open Go.Lib

theorem contains_iff (s sub : List UInt8) : Lib.contains s sub = true ↔ sub <:+: s := by
  unfold Lib.contains
  rw [decide_eq_true_eq]
  induction s with
  | nil =>
    unfold Lib.index
    cases sub with
    | nil => simp
    | cons a t => simp
  | cons b l ih =>
    unfold Lib.index
    rw [List.infix_cons_iff]
    have hge := Lib.index_ge l sub
    by_cases h : sub.isPrefixOf (b :: l) = true
    · rw [if_pos h]
      exact ⟨fun _ => .inl (List.isPrefixOf_iff_prefix.1 h), fun _ => by decide⟩
    · rw [if_neg h]
      have h' : ¬ sub <+: b :: l := fun x => h (List.isPrefixOf_iff_prefix.2 x)
      by_cases e : Lib.index l sub = -1
      · rw [e] at ih ⊢
        simp only [beq_self_eq_true, if_true]
        exact ⟨fun x => absurd x (by decide), fun x => x.elim (fun y => absurd y h') fun y => absurd (ih.2 y) (by decide)⟩
      · rw [if_neg (by simpa using e)]
        exact ⟨fun _ => .inr (ih.1 (by omega)), fun _ => by omega⟩

/-- The digits of a number below 100. -/
def dg (k : Nat) : List UInt8 := if k < 10 then [UInt8.ofNat (48 + k)] else [UInt8.ofNat (48 + k / 10), UInt8.ofNat (48 + k % 10)]
theorem decDigits_dg (k : Nat) (h : k < 100) : Lib.decDigits k = dg k := by
  unfold dg
  rw [Lib.decDigits]
  by_cases h1 : k < 10
  · rw [dif_pos h1, if_pos h1]
  · rw [dif_neg h1, if_neg h1, Lib.decDigits, dif_pos (by omega)]; rfl
def digitB (c : UInt8) : Bool := decide (48 ≤ c.toNat ∧ c.toNat ≤ 57)
theorem dg_digits : ∀ k, k < 16 → ∀ b ∈ dg k, digitB b = true := by decide
theorem dg_comma : ∀ k, k < 16 → ∀ b ∈ dg k, (b == 44) = false := by decide
theorem dg_brackets : ∀ k, k < 16 → ∀ b ∈ dg k, [91, 93].contains b = false := by decide
theorem dg_ne : ∀ k, k < 16 → dg k ≠ [] := by decide
theorem dg_inj : ∀ k, k < 16 → ∀ j, j < 16 → dg k = dg j → k = j := by decide
theorem dg_len : ∀ k, k < 16 → 1 ≤ (dg k).length ∧ (dg k).length ≤ 2 := by decide

/-- Pieces between separators. -/
def chain (y : UInt8) : List (List UInt8 × UInt8) → List UInt8
  | [] => [y]
  | (t, z) :: r => y :: (t ++ chain z r)
theorem chain_head (y : UInt8) (ts : List (List UInt8 × UInt8)) : ∃ A, chain y ts = y :: A := by
  cases ts with
  | nil => exact ⟨[], rfl⟩
  | cons x r => exact ⟨_, rfl⟩

theorem split_same {P : UInt8 → Bool} : ∀ {t d A B : List UInt8} {z v : UInt8}, (∀ b ∈ t, P b = false) → (∀ b ∈ d, P b = false) → P z = true → P v = true → t ++ z :: A = d ++ v :: B → t = d := by
  intro t
  induction t with
  | nil =>
    intro d A B z v _ hd hz _ h
    cases d with
    | nil => rfl
    | cons x d =>
      simp only [List.nil_append, List.cons_append, List.cons.injEq] at h
      have := hd x (by simp)
      rw [← h.1, hz] at this
      cases this
  | cons a t ih =>
    intro d A B z v ht hd hz hv h
    cases d with
    | nil =>
      simp only [List.nil_append, List.cons_append, List.cons.injEq] at h
      have := ht a (by simp)
      rw [h.1, hv] at this
      cases this
    | cons x d =>
      simp only [List.cons_append, List.cons.injEq] at h
      rw [h.1, ih (fun b hb => ht b (by simp [hb])) (fun b hb => hd b (by simp [hb])) hz hv h.2]
theorem split_late {P : UInt8 → Bool} : ∀ {t p A B : List UInt8} {u : UInt8}, (∀ b ∈ t, P b = false) → P u = true → t ++ A = p ++ u :: B → ∃ p', A = p' ++ u :: B := by
  intro t
  induction t with
  | nil => intro p A B u _ _ h; exact ⟨p, h⟩
  | cons a t ih =>
    intro p A B u ht hu h
    cases p with
    | nil =>
      simp only [List.nil_append, List.cons_append, List.cons.injEq] at h
      have := ht a (by simp)
      rw [h.1, hu] at this
      cases this
    | cons x p =>
      simp only [List.cons_append, List.cons.injEq] at h
      exact ih (fun b hb => ht b (by simp [hb])) hu h.2

/-- A piece stands in such a text between separators, just if it is one of its pieces. -/
theorem chain_mem {P : UInt8 → Bool} {d : List UInt8} (hd : ∀ b ∈ d, P b = false) : ∀ {ts : List (List UInt8 × UInt8)} {y : UInt8}, P y = true → (∀ x ∈ ts, (∀ b ∈ x.1, P b = false) ∧ P x.2 = true) →
    ((∃ p u v q, chain y ts = p ++ u :: (d ++ v :: q) ∧ P u = true ∧ P v = true) ↔ d ∈ ts.map (·.1)) := by
  intro ts
  induction ts with
  | nil =>
    intro y _ _
    constructor
    · rintro ⟨p, u, v, q, h, _, _⟩
      have := congrArg List.length h
      simp [chain] at this
      omega
    · intro h; simp at h
  | cons x r ih =>
    intro y hy hts
    obtain ⟨t, z⟩ := x
    obtain ⟨ht, hz⟩ := hts (t, z) (by simp)
    have ih := ih hz fun x hx => hts x (by simp [hx])
    constructor
    · rintro ⟨p, u, v, q, h, hu, hv⟩
      simp only [chain] at h
      obtain ⟨A, hA⟩ := chain_head z r
      cases p with
      | nil =>
        simp only [List.nil_append, List.cons.injEq] at h
        rw [hA] at h
        have e : t = d := split_same ht hd hz hv h.2
        rw [← e]
        simp
      | cons p0 p =>
        simp only [List.cons_append, List.cons.injEq] at h
        obtain ⟨p', h'⟩ := split_late ht hu h.2
        have := ih.1 ⟨p', u, v, q, h', hu, hv⟩
        simp only [List.map_cons, List.mem_cons]
        exact .inr this
    · intro h
      simp only [List.map_cons, List.mem_cons] at h
      rcases h with h | h
      · subst h
        obtain ⟨A, hA⟩ := chain_head z r
        exact ⟨[], y, z, A, by simp [chain, hA], hy, hz⟩
      · obtain ⟨p, u, v, q, h', hu, hv⟩ := ih.2 h
        exact ⟨y :: (t ++ p), u, v, q, by simp [chain, h'], hu, hv⟩

/-- A label's pieces, up to a last sign. -/
def toks (c : UInt8) : List Nat → List (List UInt8 × UInt8)
  | [] => [([], c)]
  | [k] => [(dg k, c)]
  | k :: j :: l => (dg k, 44) :: toks c (j :: l)
theorem chain_toks (y c : UInt8) (l : List Nat) : chain y (toks c l) = y :: (Lib.join (l.map dg) [44] ++ [c]) := by
  induction l generalizing y with
  | nil => simp [toks, chain, Lib.join_nil]
  | cons k l ih =>
    cases l with
    | nil => simp [toks, chain, Lib.join_one]
    | cons j l =>
      simp only [toks, chain]
      rw [ih]
      simp only [List.map_cons]
      rw [Lib.join_cons (dg k), Lib.join_cons (dg j)]
      simp [Lib.joinTail]
theorem toks_mem (c : UInt8) (l : List Nat) : ∀ x ∈ toks c l, (x.1 = [] ∨ ∃ k ∈ l, x.1 = dg k) ∧ (x.2 = 44 ∨ x.2 = c) := by
  induction l with
  | nil => intro x hx; simp only [toks, List.mem_singleton] at hx; subst hx; exact ⟨.inl rfl, .inr rfl⟩
  | cons k l ih =>
    cases l with
    | nil => intro x hx; simp only [toks, List.mem_singleton] at hx; subst hx; exact ⟨.inr ⟨k, by simp, rfl⟩, .inr rfl⟩
    | cons j l =>
      intro x hx
      simp only [toks, List.mem_cons] at hx
      rcases hx with hx | hx
      · subst hx; exact ⟨.inr ⟨k, by simp, rfl⟩, .inl rfl⟩
      · obtain ⟨h1, h2⟩ := ih x hx
        refine ⟨h1.imp id ?_, h2⟩
        rintro ⟨i, hi, e⟩
        exact ⟨i, List.mem_cons_of_mem _ hi, e⟩
theorem mem_toks (c : UInt8) (l : List Nat) (d : List UInt8) (hne : d ≠ []) : d ∈ (toks c l).map (·.1) ↔ d ∈ l.map dg := by
  induction l with
  | nil => simp [toks, hne]
  | cons k l ih =>
    cases l with
    | nil => simp [toks]
    | cons j l =>
      simp only [toks, List.map_cons, List.mem_cons] at ih ⊢
      rw [ih]

/-- A label's text. -/
def textL (a : Nat) : List UInt8 := 91 :: (Lib.join ((cats a).map dg) [44] ++ [93])

theorem mem_dg {a k : Nat} (hk : k < 16) : dg k ∈ (cats a).map dg ↔ a.testBit k = true := by
  simp only [List.mem_map]
  constructor
  · rintro ⟨j, hj, e⟩
    rw [dg_inj j (cats_lt hj) k hk e] at hj
    exact (mem_cats.1 hj).2
  · intro h; exact ⟨k, mem_cats.2 ⟨hk, h⟩, rfl⟩

/-- Which numbers the program finds. -/
def hitB (s : List UInt8) (k : Nat) : Bool := Lib.contains (44 :: (Lib.trimS s [91, 93] ++ [44])) (44 :: (dg k ++ [44]))
def nmd (s : List UInt8) : Nat := labOf ((List.range 16).filter (hitB s ·)) 0

theorem trim_text (J : List UInt8) (h : ∀ b ∈ J, [91, 93].contains b = false) : Lib.trimS (91 :: (J ++ [93])) [91, 93] = J := by
  unfold Lib.trimS Lib.trimRightS Lib.trimLeftS
  have e : (91 :: (J ++ [93])).reverse = 93 :: (J.reverse ++ [91]) := by simp
  rw [e, List.dropWhile_cons_of_pos (by decide)]
  cases hJ : J.reverse with
  | nil =>
    have : J = [] := by simpa using hJ
    subst this
    decide
  | cons x r =>
    have hx : x ∈ J := by rw [← List.mem_reverse, hJ]; simp
    rw [List.cons_append, List.dropWhile_cons_of_neg (by rw [h x hx]; decide)]
    have e2 : (x :: (r ++ [91])).reverse = 91 :: J := by
      have : J = (x :: r).reverse := by rw [← hJ, List.reverse_reverse]
      rw [this]; simp
    rw [e2, List.dropWhile_cons_of_pos (by decide)]
    cases J with
    | nil => simp at hx
    | cons y J => rw [List.dropWhile_cons_of_neg (by rw [h y (by simp)]; decide)]
theorem mem_join (xs : List (List UInt8)) (b : UInt8) (h : b ∈ Lib.join xs [44]) : b = 44 ∨ ∃ x ∈ xs, b ∈ x := by
  cases xs with
  | nil => simp [Lib.join_nil] at h
  | cons x r =>
    rw [Lib.join_cons] at h
    simp only [List.mem_append, Lib.joinTail, List.mem_flatten, List.mem_map] at h
    rcases h with h | ⟨y, ⟨z, hz, rfl⟩, hb⟩
    · exact .inr ⟨x, by simp, h⟩
    · simp only [List.mem_append, List.mem_singleton] at hb
      rcases hb with hb | hb
      · exact .inl hb
      · exact .inr ⟨z, by simp [hz], hb⟩
theorem hitB_text {a k : Nat} (hk : k < 16) : hitB (textL a) k = a.testBit k := by
  have htr : Lib.trimS (textL a) [91, 93] = Lib.join ((cats a).map dg) [44] := trim_text _ fun b hb => by
    rcases mem_join _ _ hb with rfl | ⟨x, hx, hb⟩
    · decide
    · simp only [List.mem_map] at hx
      obtain ⟨j, hj, rfl⟩ := hx
      exact dg_brackets j (cats_lt hj) b hb
  rw [Bool.eq_iff_iff]
  unfold hitB
  rw [htr, ← chain_toks, contains_iff, ← mem_dg hk, ← mem_toks 44 _ _ (dg_ne k hk), ← chain_mem (P := (· == 44)) (dg_comma k hk) (y := 44) rfl]
  · constructor
    · rintro ⟨p, q, h⟩
      exact ⟨p, 44, 44, q, by rw [← h]; simp, rfl, rfl⟩
    · rintro ⟨p, u, v, q, h, hu, hv⟩
      obtain rfl : u = 44 := by simpa using hu
      obtain rfl : v = 44 := by simpa using hv
      exact ⟨p, q, by rw [h]; simp⟩
  · intro x hx
    obtain ⟨h1, h2⟩ := toks_mem 44 _ x hx
    refine ⟨fun b hb => ?_, by rcases h2 with h | h <;> rw [h] <;> rfl⟩
    rcases h1 with h1 | ⟨j, hj, h1⟩
    · rw [h1] at hb; cases hb
    · rw [h1] at hb; exact dg_comma j (cats_lt hj) b hb
theorem nmd_lt (s : List UInt8) : nmd s < 65536 := labOf_lt _ _ (by omega) fun k hk => by simpa using (List.mem_filter.1 hk).1
theorem nmd_text {a : Nat} (ha : a < 65536) : nmd (textL a) = a := by
  apply lab_ext (nmd_lt _) ha
  intro k hk
  unfold nmd
  rw [labOf_bit, Nat.zero_testBit, Bool.false_or, Bool.eq_iff_iff, decide_eq_true_eq, List.mem_filter, hitB_text hk]
  simp [hk]

/-- Which numbers the document's answer finds. -/
def spotB (s d : List UInt8) (i : Nat) : Bool := ((s.drop i).take d.length == d) && !digitB (s.getD (i - 1) 0) && !digitB (s.getD (i + d.length) 0)
def foundB (s d : List UInt8) : Bool := (List.range s.length).any fun i => decide (1 ≤ i ∧ i + d.length < s.length) && spotB s d i
def nmdR (s : List UInt8) : Nat := labOf ((List.range 16).filter fun k => foundB s (dg k)) 0
theorem nmdR_lt (s : List UInt8) : nmdR s < 65536 := labOf_lt _ _ (by omega) fun k hk => by simpa using (List.mem_filter.1 hk).1

theorem foundB_iff (s d : List UInt8) : foundB s d = true ↔ ∃ p u v q, s = p ++ u :: (d ++ v :: q) ∧ (!digitB u) = true ∧ (!digitB v) = true := by
  unfold foundB
  rw [List.any_eq_true]
  constructor
  · rintro ⟨i, _, h⟩
    simp only [Bool.and_eq_true, decide_eq_true_eq, spotB, beq_iff_eq] at h
    obtain ⟨⟨h1, h2⟩, ⟨h3, h4⟩, h5⟩ := h
    have e1 : s = s.take (i - 1) ++ s.drop (i - 1) := (List.take_append_drop _ _).symm
    have e2 : s.drop (i - 1) = s[i - 1] :: s.drop i := by
      rw [List.drop_eq_getElem_cons (by omega), show i - 1 + 1 = i by omega]
    have e3 : s.drop i = d ++ s.drop (i + d.length) := by
      conv => lhs; rw [← List.take_append_drop d.length (s.drop i), h3]
      rw [List.drop_drop]
    have e4 : s.drop (i + d.length) = s[i + d.length] :: s.drop (i + d.length + 1) := List.drop_eq_getElem_cons (by omega)
    refine ⟨s.take (i - 1), s[i - 1], s[i + d.length], s.drop (i + d.length + 1), ?_, ?_, ?_⟩
    · rw [← e4, ← e3, ← e2]; exact e1
    · rw [List.getD_eq_getElem?_getD, List.getElem?_eq_getElem (by omega)] at h4; exact h4
    · rw [List.getD_eq_getElem?_getD, List.getElem?_eq_getElem h2] at h5; exact h5
  · rintro ⟨p, u, v, q, rfl, hu, hv⟩
    refine ⟨p.length + 1, by simp; omega, ?_⟩
    simp only [Bool.and_eq_true, decide_eq_true_eq, spotB, beq_iff_eq]
    refine ⟨⟨by omega, by simp; omega⟩, ⟨?_, ?_⟩, ?_⟩
    · have : p ++ u :: (d ++ v :: q) = (p ++ [u]) ++ (d ++ v :: q) := by simp
      rw [this, show p.length + 1 = (p ++ [u]).length by simp, List.drop_left, List.take_left]
    · simpa using hu
    · have : p ++ u :: (d ++ v :: q) = (p ++ u :: d) ++ v :: q := by simp
      rw [this, show p.length + 1 + d.length = (p ++ u :: d).length by simp; omega]
      simpa using hv
theorem foundB_text {a k : Nat} (hk : k < 16) : foundB (textL a) (dg k) = a.testBit k := by
  rw [Bool.eq_iff_iff, foundB_iff]
  unfold textL
  rw [← chain_toks, ← mem_dg hk, ← mem_toks 93 _ _ (dg_ne k hk), ← chain_mem (P := fun b => !digitB b) (fun b hb => by rw [dg_digits k hk b hb]; rfl) (y := 91) (by decide)]
  intro x hx
  obtain ⟨h1, h2⟩ := toks_mem 93 _ x hx
  refine ⟨fun b hb => ?_, by rcases h2 with h | h <;> rw [h] <;> decide⟩
  rcases h1 with h1 | ⟨j, hj, h1⟩
  · rw [h1] at hb; cases hb
  · rw [h1] at hb; rw [dg_digits j (cats_lt hj) b hb]; rfl
theorem nmdR_text {a : Nat} (ha : a < 65536) : nmdR (textL a) = a := by
  apply lab_ext (nmdR_lt _) ha
  intro k hk
  unfold nmdR
  rw [labOf_bit, Nat.zero_testBit, Bool.false_or, Bool.eq_iff_iff, decide_eq_true_eq, List.mem_filter, foundB_text hk]
  simp [hk]

/-- Both ways answer alike. -/
theorem ways_alike (s : List UInt8) : (textL (nmd s) = s ↔ textL (nmdR s) = s) ∧ (textL (nmd s) = s → nmd s = nmdR s) := by
  refine ⟨⟨fun h => ?_, fun h => ?_⟩, fun h => ?_⟩
  · have := nmdR_text (nmd_lt s)
    rw [h] at this
    rw [this]; exact h
  · have := nmd_text (nmdR_lt s)
    rw [h] at this
    rw [this]; exact h
  · have := nmdR_text (nmd_lt s)
    rw [h] at this
    exact this.symm
theorem textL_length (a : Nat) : (textL a).length ≤ 100 := by
  have h1 : ∀ l : List Nat, (∀ k ∈ l, k < 16) → (Lib.join (l.map dg) [44]).length ≤ 3 * l.length := by
    intro l hl
    cases l with
    | nil => simp [Lib.join_nil]
    | cons k l =>
      have h2 : ∀ m : List Nat, (∀ k ∈ m, k < 16) → (Lib.joinTail [44] (m.map dg)).length ≤ 3 * m.length := by
        intro m hm
        induction m with
        | nil => simp [Lib.joinTail]
        | cons j m ih =>
          have := ih fun k hk => hm k (by simp [hk])
          have h3 := (dg_len j (hm j (by simp))).2
          simp only [Lib.joinTail, List.map_cons, List.flatten_cons, List.length_append, List.length_cons, List.length_nil] at this ⊢
          omega
      have h3 := (dg_len k (hl k (by simp))).2
      have h4 := h2 l fun k hk => hl k (by simp [hk])
      rw [List.map_cons, Lib.join_cons]
      simp only [List.length_append, List.length_cons]
      omega
  have h5 := h1 (cats a) fun k hk => cats_lt hk
  have h6 : (cats a).length ≤ 16 := catsTo_length a 16
  simp only [textL, List.length_cons, List.length_append, List.length_nil]
  omega
end Go.Proofs.YtkihhhcjmlcmpaaDoor
