/-
  What a commit, an opening and a power failure make of a disk, on paper: sixty sectors, the journal from the twelfth on.
-/
import Derived.Test.YtnkpmmijdkcdjaaX8
namespace Go.Proofs.Ytnkpmmijdkcdjaa
open Go.RowKit

section
variable {α : Type}
theorem puts_mem {l : List (Nat × α)} : ∀ {L : List α} {x : α}, x ∈ puts L l → x ∈ L ∨ ∃ p ∈ l, p.2 = x := by
  induction l with
  | nil => intro L x h; exact .inl h
  | cons p l ih =>
    intro L x h
    rw [puts_cons] at h
    rcases ih h with h | ⟨q, hq, rfl⟩
    · rcases List.mem_or_eq_of_mem_set h with h | rfl
      · exact .inl h
      · exact .inr ⟨p, List.mem_cons_self .., rfl⟩
    · exact .inr ⟨q, List.mem_cons_of_mem _ hq, rfl⟩
theorem puts_indep {l : List (Nat × α)} : ∀ {L L' : List α} {s : Nat}, L.length = L'.length → (∃ p ∈ l, p.1 = s) → (puts L l)[s]? = (puts L' l)[s]? := by
  induction l with
  | nil => rintro L L' s _ ⟨p, hp, _⟩; cases hp
  | cons p l ih =>
    intro L L' s hl h
    rw [puts_cons, puts_cons]
    by_cases hs : ∃ q ∈ l, q.1 = s
    · exact ih (by simp [hl]) hs
    · have hn : ∀ q ∈ l, q.1 ≠ s := fun q hq e => hs ⟨q, hq, e⟩
      rw [puts_get hn, puts_get hn]
      obtain ⟨q, hq, e⟩ := h
      rcases List.mem_cons.1 hq with rfl | hq
      · subst e
        rw [List.getElem?_set, List.getElem?_set, if_pos rfl, if_pos rfl, hl]
      · exact absurd e (hn q hq)
theorem puts_twice {L : List α} {sub l : List (Nat × α)} (h : ∀ p ∈ sub, p ∈ l) : puts (puts L sub) l = puts L l := by
  apply List.ext_getElem?
  intro s
  by_cases hs : ∃ q ∈ l, q.1 = s
  · exact puts_indep (length_puts _ _) hs
  · have hn : ∀ q ∈ l, q.1 ≠ s := fun q hq e => hs ⟨q, hq, e⟩
    rw [puts_get hn, puts_get hn, puts_get fun q hq => hn q (h q hq)]
theorem puts_one (L : List α) (s : Nat) (x : α) : puts L [(s, x)] = L.set s x := rfl

theorem puts_const {s : Nat} {x : α} : ∀ {sub : List (Nat × α)} {L : List α}, (∀ p ∈ sub, p = (s, x)) → sub = [] ∧ puts L sub = L ∨ puts L sub = L.set s x
  | [], L, _ => .inl ⟨rfl, rfl⟩
  | p :: r, L, h => by
    right
    rw [puts_cons, h p (List.mem_cons_self ..)]
    rcases puts_const (sub := r) (L := L.set s x) fun q hq => h q (List.mem_cons_of_mem _ hq) with ⟨_, h1⟩ | h1
    · exact h1
    · rw [h1, List.set_set]

/-- What writes come to. -/
theorem writes_cases (l : List (Nat × α)) : ∀ k : Dk α, k.dead = false →
    ((k.writes l).1 = 0 ∧ (k.writes l).2.safe = puts k.now l ∧ (k.writes l).2.un = [] ∧ (k.writes l).2.dead = false ∧ (k.writes l).2.cut = k.cut) ∨
    (k.cut = true ∧ (k.writes l).1 = 6 ∧ (k.writes l).2.dead = true ∧ (k.writes l).2.safe = k.safe ∧ ∃ m, (k.writes l).2.un = k.un ++ l.take m) := by
  induction l with
  | nil =>
    intro k hd
    unfold Dk.writes
    cases ho : k.off
    · left
      simp [Dk.flush, ho, Dk.op, puts_nil, hd]
    · right
      have hc : k.cut = true := by
        simp [Dk.off, hd] at ho; exact ho.1
      simp [Dk.flush, ho, Dk.op, hc]
  | cons p l ih =>
    intro k hd
    unfold Dk.writes
    cases ho : k.off
    · have hw : (k.wrote p.1 p.2).dead = false := by simp [Dk.wrote, Dk.op, ho, hd]
      have hcut : (k.wrote p.1 p.2).cut = k.cut := by simp [Dk.wrote, Dk.op, ho]
      have hnow : (k.wrote p.1 p.2).now = puts k.now [p] := by
        rw [Dk.now, Dk.wrote_safe, Dk.wrote_un, puts_append]; rfl
      rcases ih (k.wrote p.1 p.2) hw with ⟨h1, h2, h3, h4, h5⟩ | ⟨h1, h2, h3, h4, m, h5⟩
      · left
        simp only [Bool.false_eq_true, if_false]
        refine ⟨h1, ?_, h3, h4, h5.trans hcut⟩
        rw [h2, hnow, puts_cons, puts_nil, puts_cons]
      · right
        simp only [Bool.false_eq_true, if_false]
        refine ⟨hcut ▸ h1, h2, h3, h4.trans (Dk.wrote_safe _ _ _), m + 1, ?_⟩
        rw [h5, Dk.wrote_un, List.take_succ_cons, List.append_assoc]; rfl
    · right
      have hc : k.cut = true := by
        simp [Dk.off, hd] at ho; exact ho.1
      simp only [if_true]
      refine ⟨hc, trivial, ?_, Dk.op_safe k, 0, ?_⟩
      · simp [Dk.op, ho]
      · simp [Dk.op_un]
theorem writes_dead (p : Nat × α) (l : List (Nat × α)) (k : Dk α) (hd : k.dead = true) : k.writes (p :: l) = (6, k) := by
  have ho : k.off = true := by simp [Dk.off, hd]
  unfold Dk.writes
  rw [if_pos ho, Dk.op, if_pos ho]
  cases k
  simp only at hd
  subst hd
  rfl
theorem crash_safe (k : Dk α) (t : Nat) : ∃ sub, (∀ p ∈ sub, p ∈ k.un) ∧ (k.crash t).safe = puts k.safe sub ∧ (k.crash t).un = [] ∧ (k.crash t).dead = false ∧ (k.crash t).cut = false :=
  ⟨kept t 0 k.un, kept_mem, rfl, rfl, rfl, rfl⟩
theorem now_of_un {k : Dk α} (h : k.un = []) : k.now = k.safe := by rw [Dk.now, h, puts_nil]
end

/-- A disk as it lies, with a journal's head, and the patches that are to be replayed. -/
structure Img (S : List Sx) (q : Nat) (l : List (Nat × Sx)) : Prop where
  len : S.length = 60
  head : ∃ c, S[12]? = some c ∧ IsHead c q l.length
  loads : Loads S 12 l
  val : ∀ p ∈ l, p.1 < 12
  room : l.length ≤ 44

theorem isHead_headS (q n : Nat) (hq : q < 18446744073709551616) (hn : n < 65536) : IsHead (headS q n) q n := .inl ⟨rfl, hq, hn⟩
theorem loads_far {S S' : List Sx} {l : List (Nat × Sx)} (h : Loads S 12 l) (hs : ∀ i, 13 ≤ i → S'[i]? = S[i]?) : Loads S' 12 l := fun i p hp => by
  obtain ⟨cl, cb, h1, h2, h3⟩ := h i p hp
  exact ⟨cl, cb, (hs _ (by omega)).trans h1, (hs _ (by omega)).trans h2, h3⟩
theorem loads_nil (S : List Sx) : Loads S 12 [] := fun i p h => by simp at h
theorem puts_low {S : List Sx} {sub : List (Nat × Sx)} (h : ∀ p ∈ sub, p.1 < 12) {i : Nat} (hi : 12 ≤ i) : (puts S sub)[i]? = S[i]? := puts_get fun p hp => by have := h p hp; omega

theorem Img.subs {S : List Sx} {q : Nat} {l sub : List (Nat × Sx)} (h : Img S q l) (hs : ∀ p ∈ sub, p ∈ l) : Img (puts S sub) q l ∧ puts (puts S sub) l = puts S l := by
  have hv : ∀ p ∈ sub, p.1 < 12 := fun p hp => h.val p (hs p hp)
  refine ⟨⟨by rw [length_puts, h.len], ?_, loads_far h.loads fun i hi => puts_low hv (by omega), h.val, h.room⟩, puts_twice hs⟩
  obtain ⟨c, h1, h2⟩ := h.head
  exact ⟨c, (puts_low hv (Nat.le_refl _)).trans h1, h2⟩
/-- Another head, behind which nothing is to be replayed. -/
theorem Img.rest {S : List Sx} (hl : S.length = 60) {q : Nat} (hq : q < 18446744073709551616) : Img (S.set 12 (headS q 0)) q [] :=
  ⟨by rw [List.length_set, hl], ⟨headS q 0, by rw [List.getElem?_set, if_pos rfl, if_pos (by omega)], isHead_headS q 0 hq (by omega)⟩, loads_nil _, fun p hp => (by cases hp), by simp⟩
theorem take_set12 (S : List Sx) (x : Sx) : (S.set 12 x).take 12 = S.take 12 := by
  apply List.ext_getElem?
  intro i
  rw [List.getElem?_take, List.getElem?_take]
  split
  · rw [List.getElem?_set, if_neg (by omega)]
  · rfl
theorem take_far {S S' : List Sx} (h : ∀ i, i < 12 → S'[i]? = S[i]?) : S'.take 12 = S.take 12 := by
  apply List.ext_getElem?
  intro i
  rw [List.getElem?_take, List.getElem?_take]
  split
  · exact h i (by assumption)
  · rfl

/-- When it is opened, there will be V. -/
def Safe (N : Nat) (S : List Sx) (V : List Sx) : Prop := ∃ q l, Img S q l ∧ q ≤ N ∧ (puts S l).take 12 = V

/-- At rest. -/
structure Rest (k : Dk Sx) (q : Nat) : Prop where
  img : Img k.safe q []
  un : k.un = []
  dead : k.dead = false
/-- The power is off; behind a crash there will be what P says. -/
structure Fell (N : Nat) (k : Dk Sx) (P : List Sx → Prop) : Prop where
  dead : k.dead = true
  un : k.un.length ≤ 200
  len : k.safe.length = 60
  safe : ∀ t, ∃ V, P V ∧ Safe N (k.crash t).safe V

theorem finish_spec {k : Dk Sx} {q : Nat} {l : List (Nat × Sx)} (h : Img k.safe q l) (hu : k.un = []) (hd : k.dead = false) (hq : q < 18446744073709551616) :
    ((k.finish 12 q l).1 = 0 ∧ Rest (k.finish 12 q l).2 q ∧ (k.finish 12 q l).2.safe = (puts k.safe l).set 12 (headS q 0) ∧ (k.finish 12 q l).2.cut = k.cut) ∨
    (k.cut = true ∧ (k.finish 12 q l).1 = 6 ∧ Fell q (k.finish 12 q l).2 (fun V => V = (puts k.safe l).take 12)) := by
  unfold Dk.finish
  rcases writes_cases l k hd with ⟨h1, h2, h3, h4, h5⟩ | ⟨h1, h2, h3, h4, m, h5⟩
  · rw [if_pos h1]
    rw [now_of_un hu] at h2
    have hI := (h.subs fun p hp => hp).1
    rw [← h2] at hI
    rcases writes_cases [(12, headS q 0)] (k.writes l).2 h4 with ⟨g1, g2, g3, g4, g5⟩ | ⟨g1, g2, g3, g4, m, g5⟩
    · left
      rw [now_of_un h3, h2, puts_one] at g2
      refine ⟨g1, ⟨?_, g3, g4⟩, g2, g5.trans h5⟩
      rw [g2]
      exact Img.rest (by rw [length_puts, h.len]) hq
    · right
      refine ⟨by rw [← h5]; exact g1, g2, g3, ?_, by rw [g4, h2, length_puts, h.len], fun t => ?_⟩
      · rw [g5, h3, List.nil_append, List.length_take]; simp only [List.length_singleton]; omega
      · obtain ⟨sub, c1, c2, _, _, _⟩ := crash_safe ((k.writes l).2.writes [(12, headS q 0)]).2 t
        rw [g5, h3, List.nil_append] at c1
        rw [g4] at c2
        refine ⟨_, rfl, ?_⟩
        rw [c2]
        have hall : ∀ p ∈ sub, p = (12, headS q 0) := fun p hp => by
          have := List.mem_of_mem_take (c1 p hp)
          simpa using this
        rcases puts_const (L := (k.writes l).2.safe) hall with ⟨_, hc⟩ | hc
        · rw [hc]
          exact ⟨q, l, hI, Nat.le_refl _, by rw [h2, puts_twice fun p hp => hp]⟩
        · rw [hc]
          exact ⟨q, [], Img.rest hI.len hq, Nat.le_refl _, by rw [puts_nil, take_set12, h2]⟩
  · right
    rw [if_neg (by rw [h2]; decide)]
    refine ⟨h1, h2, h3, ?_, by rw [h4, h.len], fun t => ?_⟩
    · rw [h5, hu, List.nil_append, List.length_take]; have := h.room; omega
    · obtain ⟨sub, c1, c2, _, _, _⟩ := crash_safe (k.writes l).2 t
      rw [h5, hu, List.nil_append] at c1
      rw [h4] at c2
      obtain ⟨i1, i2⟩ := h.subs fun p hp => List.mem_of_mem_take (c1 p hp)
      exact ⟨_, rfl, q, l, by rw [c2]; exact i1, Nat.le_refl _, by rw [c2, i2]⟩

theorem Safe.up {N M : Nat} {S V : List Sx} (h : Safe N S V) (hM : N ≤ M) : Safe M S V := by
  obtain ⟨q, l, h1, h2, h3⟩ := h
  exact ⟨q, l, h1, by omega, h3⟩
theorem Fell.up {N M : Nat} {k : Dk Sx} {P Q : List Sx → Prop} (h : Fell N k P) (hM : N ≤ M) (hPQ : ∀ V, P V → Q V) : Fell M k Q :=
  ⟨h.dead, h.un, h.len, fun t => by
    obtain ⟨V, h1, h2⟩ := h.safe t
    exact ⟨V, hPQ V h1, h2.up hM⟩⟩

/-- What is stored is loaded. -/
theorem loads_stored {S : List Sx} {l : List (Nat × Sx)} (hl : S.length = 60) (hr : l.length ≤ 44) (hv : ∀ p ∈ l, p.1 < 12) : Loads (puts S (placed 13 (stored l))) 12 l := fun i p hp => by
  obtain ⟨h1, h2⟩ := stored_at l i p hp
  have hlen := length_stored l
  have a1 := puts_placed (stored l) 13 S (by rw [hlen, hl]; omega) _ _ h1
  have a2 := puts_placed (stored l) 13 S (by rw [hlen, hl]; omega) _ _ h2
  have hg : (grp l (i / 15))[i % 15]? = some p := by
    rw [grp, List.getElem?_take, if_pos (by omega), List.getElem?_drop, show 15 * (i / 15) + i % 15 = i by omega]; exact hp
  have hg15 : (grp l (i / 15)).length ≤ 15 := by rw [length_grp]; omega
  obtain ⟨w1, w2⟩ := words_get _ _ _ hg
  have hp12 := hv p (List.mem_of_getElem? hp)
  exact ⟨_, _, a1, by rw [show 12 + 1 + i / 15 * 16 + 1 + i % 15 = 13 + (i / 15 * 16 + 1 + i % 15) by omega]; exact a2, listB_word _ hg15 _ _ w1 (by omega), listB_word _ hg15 _ _ w2 p.2.ht, rfl⟩
theorem placed13 {l : List (Nat × Sx)} : ∀ p ∈ placed 13 (stored l), 13 ≤ p.1 := fun _p hp => (placed_mem hp).1

/-- What a commit comes to. -/
def after (S : List Sx) (q : Nat) (l : List (Nat × Sx)) : List Sx := (puts ((puts S (placed 13 (stored l))).set 12 (headS (q + 1) l.length)) l).set 12 (headS (q + 1) 0)
theorem commit_spec {k : Dk Sx} {q : Nat} {l : List (Nat × Sx)} (h : Rest k q) (_hl : l ≠ []) (hv : ∀ p ∈ l, p.1 < 12) (hr : l.length ≤ 44) (hq : q + 1 < 18446744073709551616) :
    ((k.commit 12 q l).1 = 0 ∧ Rest (k.commit 12 q l).2 (q + 1) ∧ (k.commit 12 q l).2.safe = after k.safe q l ∧ (k.commit 12 q l).2.cut = k.cut) ∨
    (k.cut = true ∧ (k.commit 12 q l).1 = 6 ∧ Fell (q + 1) (k.commit 12 q l).2 (fun V => V = k.safe.take 12 ∨ V = (puts k.safe l).take 12)) := by
  obtain ⟨⟨hlen, ⟨ch, hc1, hc2⟩, _, _, _⟩, hu, hd⟩ := h
  have hsl : (stored l).length ≤ 47 := by rw [length_stored]; omega
  -- an image in which some of the stored sectors are new
  have hsub : ∀ sub, (∀ p ∈ sub, p ∈ placed 13 (stored l)) → Img (puts k.safe sub) q [] ∧ (puts k.safe sub).take 12 = k.safe.take 12 := fun sub hs => by
    have h13 : ∀ p ∈ sub, 13 ≤ p.1 := fun p hp => placed13 p (hs p hp)
    exact ⟨⟨by rw [length_puts, hlen], ⟨ch, (puts_get fun p hp => by have := h13 p hp; omega).trans hc1, hc2⟩, loads_nil _, fun p hp => (by cases hp), by simp⟩, take_far fun i hi => puts_get fun p hp => by have := h13 p hp; omega⟩
  unfold Dk.commit
  rcases writes_cases (placed (12 + 1) (stored l)) k hd with ⟨h1, h2, h3, h4, h5⟩ | ⟨h1, h2, h3, h4, m, h5⟩
  · rw [if_pos h1]
    rw [now_of_un hu] at h2
    obtain ⟨i1, i2⟩ := hsub _ fun p hp => hp
    have hld := loads_stored hlen hr hv
    rw [show (12 : Nat) + 1 = 13 from rfl] at h1 h2 h3 h4 h5 ⊢
    rw [← h2] at i1 i2 hld
    obtain ⟨k1, hk1⟩ : ∃ k1, k1 = (k.writes (placed 13 (stored l))).2 := ⟨_, rfl⟩
    rw [← hk1] at h2 h3 h4 h5 i1 i2 hld ⊢
    have hI2 : Img (k1.safe.set 12 (headS (q + 1) l.length)) (q + 1) l := ⟨by rw [List.length_set, i1.len], ⟨_, by rw [List.getElem?_set, if_pos rfl, if_pos (by rw [i1.len]; omega)], isHead_headS _ _ hq (by omega)⟩, loads_far hld fun i hi => by rw [List.getElem?_set, if_neg (by omega)], hv, hr⟩
    have hV : (puts (k1.safe.set 12 (headS (q + 1) l.length)) l).take 12 = (puts k.safe l).take 12 := by
      refine take_far fun i hi => ?_
      have hii : (k1.safe.set 12 (headS (q + 1) l.length))[i]? = k.safe[i]? := by
        rw [List.getElem?_set, if_neg (by omega), h2, puts_get fun p hp => by have := placed13 p hp; omega]
      by_cases hs : ∃ p ∈ l, p.1 = i
      · exact puts_indep (by rw [List.length_set, i1.len, hlen]) hs
      · have hn : ∀ p ∈ l, p.1 ≠ i := fun p hp e => hs ⟨p, hp, e⟩
        rw [puts_get hn, puts_get hn, hii]
    unfold Dk.tell
    rcases writes_cases [(12, headS (q + 1) l.length)] k1 h4 with ⟨g1, g2, g3, g4, g5⟩ | ⟨g1, g2, g3, g4, m, g5⟩
    · rw [if_pos g1]
      rw [now_of_un h3, puts_one] at g2
      rw [← g2] at hI2 hV
      rcases finish_spec hI2 g3 g4 hq with ⟨f1, f2, f3, f4⟩ | ⟨f0, f1, f2⟩
      · left
        refine ⟨f1, f2, ?_, f4.trans (g5.trans h5)⟩
        rw [f3, g2, h2]; rfl
      · right
        refine ⟨by rw [← h5, ← g5]; exact f0, f1, f2.up (Nat.le_refl _) fun V hV' => ?_⟩
        right
        rw [hV', hV]
    · right
      rw [if_neg (by rw [g2]; decide)]
      refine ⟨by rw [← h5]; exact g1, g2, g3, ?_, by rw [g4, i1.len], fun t => ?_⟩
      · rw [g5, h3, List.nil_append, List.length_take]; simp only [List.length_singleton]; omega
      · obtain ⟨sub, c1, c2, _, _, _⟩ := crash_safe (k1.writes [(12, headS (q + 1) l.length)]).2 t
        rw [g5, h3, List.nil_append] at c1
        rw [g4] at c2
        rw [c2]
        have hall : ∀ p ∈ sub, p = (12, headS (q + 1) l.length) := fun p hp => by
          have := List.mem_of_mem_take (c1 p hp)
          simpa using this
        rcases puts_const (L := k1.safe) hall with ⟨_, hc⟩ | hc
        · rw [hc]
          exact ⟨_, .inl rfl, q, [], i1, by omega, by rw [puts_nil, i2]⟩
        · rw [hc]
          exact ⟨_, .inr rfl, q + 1, l, hI2, Nat.le_refl _, hV⟩
  · right
    rw [if_neg (by rw [h2]; decide)]
    refine ⟨h1, h2, h3, ?_, by rw [h4, hlen], fun t => ?_⟩
    · rw [h5, hu, List.nil_append, List.length_take, length_placed]; omega
    · obtain ⟨sub, c1, c2, _, _, _⟩ := crash_safe (k.writes (placed (12 + 1) (stored l))).2 t
      rw [h5, hu, List.nil_append] at c1
      rw [h4] at c2
      obtain ⟨i1, i2⟩ := hsub sub fun p hp => List.mem_of_mem_take (c1 p hp)
      exact ⟨_, .inl rfl, q, [], by rw [c2]; exact i1, by omega, by rw [c2, puts_nil, i2]⟩
theorem take_after (S : List Sx) (_hS : S.length = 60) (q : Nat) (l : List (Nat × Sx)) : (after S q l).take 12 = (puts S l).take 12 := by
  unfold after
  rw [take_set12]
  refine take_far fun i hi => ?_
  by_cases hs : ∃ p ∈ l, p.1 = i
  · exact puts_indep (by rw [List.length_set, length_puts]) hs
  · have hn : ∀ p ∈ l, p.1 ≠ i := fun p hp e => hs ⟨p, hp, e⟩
    rw [puts_get hn, puts_get hn, List.getElem?_set, if_neg (by omega), puts_get fun p hp => by have := placed13 p hp; omega]

/-- An opening. -/
theorem opened_spec {k : Dk Sx} {q : Nat} {l : List (Nat × Sx)} (h : Img k.safe q l) (hu : k.un = []) (hd : k.dead = false) (hq : q < 18446744073709551616) :
    ((k.opened 12 q l).1 = 0 ∧ Rest (k.opened 12 q l).2 q ∧ (k.opened 12 q l).2.safe.take 12 = (puts k.safe l).take 12 ∧ (k.opened 12 q l).2.cut = k.cut) ∨
    (k.cut = true ∧ (k.opened 12 q l).1 = 6 ∧ Fell q (k.opened 12 q l).2 (fun V => V = (puts k.safe l).take 12)) := by
  unfold Dk.opened
  by_cases hl : l = []
  · subst hl
    rw [if_pos rfl]
    exact .inl ⟨rfl, ⟨h, hu, hd⟩, by rw [puts_nil], rfl⟩
  · rw [if_neg hl]
    rcases finish_spec h hu hd hq with ⟨f1, f2, f3, f4⟩ | f
    · left
      exact ⟨f1, f2, by rw [f3, take_set12], f4⟩
    · exact .inr f
/-- Behind a crash it can be opened. -/
theorem Rest.crash {k : Dk Sx} {q : Nat} (h : Rest k q) (t : Nat) : (k.crash t).safe = k.safe := by
  obtain ⟨sub, c1, c2, _⟩ := crash_safe k t
  rw [h.un] at c1
  cases sub with
  | nil => exact c2
  | cons p r => exact absurd (c1 p (List.mem_cons_self ..)) (by simp)
theorem Rest.safe {k : Dk Sx} {q N : Nat} (h : Rest k q) (hN : q ≤ N) (t : Nat) : Safe N (k.crash t).safe (k.safe.take 12) :=
  ⟨q, [], by rw [h.crash t]; exact h.img, hN, by rw [puts_nil, h.crash t]⟩
end Go.Proofs.Ytnkpmmijdkcdjaa
