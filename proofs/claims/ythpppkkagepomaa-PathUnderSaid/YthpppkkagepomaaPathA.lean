/-
  Paths on paper: names, each behind a slash; the names of a path; its directory and last name; whether one leads through another.
-/
import Derived.Test.YthpppkkagepomaaEntryA
namespace Go.Proofs.Ythpppkkagepomaa.Path
open Go.Proofs.Ythpppkkagepomaa.Entry

/-- A name has no slash, and some byte. -/
theorem no_slash {n : List UInt8} (h : nameB n = true) : ∀ c ∈ n, c ≠ 47 := by
  intro c hc he
  subst he
  simp only [nameB, Bool.and_eq_true, List.all_eq_true] at h
  have := h.2 47 hc
  simp at this
theorem name_ne {n : List UInt8} (h : nameB n = true) : n ≠ [] := fun he => by
  have := (name_len h).1
  rw [he] at this
  simp at this
/-- The names, each behind a slash. -/
def pth : List (List UInt8) → List UInt8
  | [] => []
  | n :: l => 47 :: (n ++ pth l)
theorem pth_append (l m : List (List UInt8)) : pth (l ++ m) = pth l ++ pth m := by
  induction l with
  | nil => rfl
  | cons n l ih => simp [pth, ih]
/-- A path's bytes. -/
def pathB (l : List (List UInt8)) : List UInt8 := if l = [] then [47] else pth l
def Names (l : List (List UInt8)) : Prop := ∀ n ∈ l, nameB n = true
structure Okp (l : List (List UInt8)) : Prop where
  len : l.length ≤ 16
  names : Names l
theorem Names.nil : Names [] := fun _ h => by simp at h
theorem Names.cons {n : List UInt8} {l : List (List UInt8)} (h : Names (n :: l)) : nameB n = true ∧ Names l := ⟨h n (by simp), fun m hm => h m (by simp [hm])⟩
/-- What is ahead of the next slash. -/
def upto (s : List UInt8) : List UInt8 := s.takeWhile fun c => !(c == 47)
def rest (s : List UInt8) : List UInt8 := s.dropWhile fun c => !(c == 47)
theorem upto_name {n s : List UInt8} (hn : ∀ c ∈ n, c ≠ 47) (hs : s = [] ∨ ∃ t, s = 47 :: t) : upto (n ++ s) = n ∧ rest (n ++ s) = s := by
  unfold upto rest
  induction n with
  | nil =>
    rcases hs with rfl | ⟨t, rfl⟩
    · exact ⟨rfl, rfl⟩
    · exact ⟨rfl, rfl⟩
  | cons c n ih =>
    have hc : (!(c == 47)) = true := by
      have := hn c (by simp)
      simpa using this
    obtain ⟨h1, h2⟩ := ih fun d hd => hn d (by simp [hd])
    rw [List.cons_append, List.takeWhile_cons_of_pos (p := fun c : UInt8 => !(c == 47)) hc, List.dropWhile_cons_of_pos (p := fun c : UInt8 => !(c == 47)) hc, h1, h2]
    exact ⟨rfl, rfl⟩
theorem pth_head (l : List (List UInt8)) : pth l = [] ∨ ∃ t, pth l = 47 :: t := by
  cases l with
  | nil => exact .inl rfl
  | cons n l => exact .inr ⟨_, rfl⟩
theorem pth_inj {l m : List (List UInt8)} (hl : Names l) (hm : Names m) (h : pth l = pth m) : l = m := by
  induction l generalizing m with
  | nil =>
    cases m with
    | nil => rfl
    | cons n m => simp [pth] at h
  | cons n l ih =>
    cases m with
    | nil => simp [pth] at h
    | cons k m =>
      obtain ⟨h1, h2⟩ := hl.cons
      obtain ⟨h3, h4⟩ := hm.cons
      have h : n ++ pth l = k ++ pth m := by simpa [pth] using h
      have e1 := upto_name (no_slash h1) (pth_head l)
      have e2 := upto_name (no_slash h3) (pth_head m)
      rw [h] at e1
      rw [e1.1.symm.trans e2.1, ih h2 h4 (e1.2.symm.trans e2.2)]
theorem pth_ne {l : List (List UInt8)} (hl : Names l) : pth l ≠ [47] := by
  cases l with
  | nil => simp [pth]
  | cons n l =>
    intro h
    have := name_ne hl.cons.1
    simp [pth] at h
    exact this h.1
theorem path_inj {l m : List (List UInt8)} (hl : Names l) (hm : Names m) (h : pathB l = pathB m) : l = m := by
  unfold pathB at h
  split at h
  · rename_i h1
    split at h
    · rename_i h2
      rw [h1, h2]
    · exact absurd h.symm (pth_ne hm)
  · split at h
    · exact absurd h (pth_ne hl)
    · exact pth_inj hl hm h
theorem path_cons (n : List UInt8) (l : List (List UInt8)) : pathB (n :: l) = pth (n :: l) := if_neg (by simp)
theorem path_slash (l : List (List UInt8)) : ∃ t, pathB l = 47 :: t := by
  unfold pathB
  split
  · exact ⟨[], rfl⟩
  · rename_i h
    cases l with
    | nil => exact absurd rfl h
    | cons n l => exact ⟨_, rfl⟩
theorem length_pth {l : List (List UInt8)} (h : Names l) : (pth l).length ≤ l.length * 14 ∧ l.length * 2 ≤ (pth l).length := by
  induction l with
  | nil => simp [pth]
  | cons n l ih =>
    obtain ⟨h1, h2⟩ := h.cons
    have := ih h2
    have hl := name_len h1
    simp [pth]
    omega
theorem length_path {l : List (List UInt8)} (h : Okp l) : (pathB l).length ≤ 224 := by
  unfold pathB
  split
  · simp
  · have := (length_pth h.names).1
    have := h.len
    omega

/-- The names of a path. -/
noncomputable def parP (s : List UInt8) : Option (List (List UInt8)) := @dite _ (∃ l, Okp l ∧ pathB l = s) (Classical.propDecidable _) (fun h => some h.choose) fun _ => none
theorem parP_path {l : List (List UInt8)} (h : Okp l) : parP (pathB l) = some l := by
  unfold parP
  have hx : ∃ m, Okp m ∧ pathB m = pathB l := ⟨l, h, rfl⟩
  rw [dif_pos hx]
  have := hx.choose_spec
  rw [path_inj this.1.names h.names this.2]
theorem parP_some {s : List UInt8} {l : List (List UInt8)} (h : parP s = some l) : Okp l ∧ pathB l = s := by
  unfold parP at h
  split at h
  · rename_i hx
    obtain rfl : hx.choose = l := by simpa using h
    exact hx.choose_spec
  · cases h
theorem parP_iff {s : List UInt8} {l : List (List UInt8)} : parP s = some l ↔ Okp l ∧ pathB l = s := ⟨parP_some, fun ⟨h, hs⟩ => hs ▸ parP_path h⟩
theorem parP_none {s : List UInt8} (h : parP s = none) : ¬ ∃ l, Okp l ∧ pathB l = s := fun ⟨l, hl, hs⟩ => by
  rw [parP_iff.2 ⟨hl, hs⟩] at h
  cases h

/-! What each call answers. -/
noncomputable def parseP (s : List UInt8) : List (List UInt8) × Nat :=
  match parP s with
  | some l => (l, 0)
  | none => ([], 130)
def joinP (l : List (List UInt8)) : List UInt8 × Nat := if l.length ≤ 16 ∧ (l.all nameB) = true then (pathB l, 0) else ([], 130)
noncomputable def splitP (s : List UInt8) : List UInt8 × List UInt8 × Nat :=
  match parP s with
  | some [] => ([], [], 130)
  | some (n :: l) => (pathB (n :: l).dropLast, (n :: l).getLast (by simp), 0)
  | none => ([], [], 130)
noncomputable def underP (s t : List UInt8) : Bool :=
  match parP s, parP t with
  | some l, some m => m.isPrefixOf l
  | _, _ => false

theorem names_all {l : List (List UInt8)} : l.all nameB = true ↔ Names l := by
  rw [List.all_eq_true]
  rfl
theorem join_yes {l : List (List UInt8)} (h : Okp l) : joinP l = (pathB l, 0) := if_pos ⟨h.len, names_all.2 h.names⟩
theorem join_no {l : List (List UInt8)} (h : ¬ Okp l) : joinP l = ([], 130) := if_neg fun ⟨h1, h2⟩ => h ⟨h1, names_all.1 h2⟩
theorem join_ok {l : List (List UInt8)} (h : (joinP l).2 = 0) : Okp l := by
  by_cases hl : Okp l
  · exact hl
  · rw [join_no hl] at h
    cases h
theorem Okp.take {l : List (List UInt8)} (h : Okp l) (k : Nat) : Okp (l.take k) := ⟨by rw [List.length_take]; have := h.len; omega, fun n hn => h.names n (List.mem_of_mem_take hn)⟩
theorem Okp.dropLast {l : List (List UInt8)} (h : Okp l) : Okp l.dropLast := ⟨by rw [List.length_dropLast]; have := h.len; omega, fun n hn => h.names n ((List.dropLast_prefix l).subset hn)⟩
theorem Okp.snoc {l : List (List UInt8)} {n : List UInt8} (h : Okp l) (hl : l.length < 16) (hn : nameB n = true) : Okp (l ++ [n]) := ⟨by rw [List.length_append, List.length_singleton]; omega, fun m hm => by
  rcases List.mem_append.1 hm with hm | hm
  · exact h.names m hm
  · rw [List.mem_singleton.1 hm]; exact hn⟩
theorem split_yes {l : List (List UInt8)} {n : List UInt8} (h : Okp (l ++ [n])) : splitP (pathB (l ++ [n])) = (pathB l, n, 0) := by
  unfold splitP
  rw [parP_path h]
  cases hl : l ++ [n] with
  | nil => simp at hl
  | cons k m =>
    simp only
    have h1 : (k :: m).dropLast = l := by rw [← hl]; simp
    have h2 : (k :: m).getLast (by simp) = n := by simp [← hl]
    rw [h1, h2]
/-- To be under is an order. -/
theorem under_iff {s t : List UInt8} {l m : List (List UInt8)} (hs : parP s = some l) (ht : parP t = some m) : underP s t = true ↔ m <+: l := by
  unfold underP
  rw [hs, ht]
  exact List.isPrefixOf_iff_prefix
theorem under_some {s t : List UInt8} (h : underP s t = true) : ∃ l m, parP s = some l ∧ parP t = some m ∧ m <+: l := by
  unfold underP at h
  split at h
  · rename_i l m hl hm
    exact ⟨l, m, hl, hm, List.isPrefixOf_iff_prefix.1 h⟩
  · cases h
theorem under_refl {s : List UInt8} : underP s s = (parP s).isSome := by
  cases hs : parP s with
  | none => unfold underP; rw [hs]; rfl
  | some l => exact (under_iff hs hs).2 (List.prefix_refl _)
theorem under_trans {s t u : List UInt8} (h1 : underP s t = true) (h2 : underP t u = true) : underP s u = true := by
  obtain ⟨l, m, hl, hm, hp⟩ := under_some h1
  obtain ⟨m', k, hm', hk, hq⟩ := under_some h2
  rw [hm] at hm'
  obtain rfl : m = m' := by simpa using hm'
  exact (under_iff hl hk).2 (hq.trans hp)
theorem under_same {s t : List UInt8} (h1 : underP s t = true) (h2 : underP t s = true) : s = t := by
  obtain ⟨l, m, hl, hm, hp⟩ := under_some h1
  have hq := (under_iff hm hl).1 h2
  have e : m = l := hp.eq_of_length_le hq.length_le
  subst e
  rw [← (parP_some hl).2, (parP_some hm).2]
theorem root_ok : Okp [] := ⟨by simp, Names.nil⟩
theorem under_root {s : List UInt8} : underP s [47] = (parP s).isSome := by
  have hr : parP [47] = some [] := parP_path root_ok
  cases hs : parP s with
  | none => unfold underP; rw [hs]; rfl
  | some l => exact (under_iff hs hr).2 List.nil_prefix
theorem under_dir {l : List (List UInt8)} {n : List UInt8} (h : Okp (l ++ [n])) : underP (pathB (l ++ [n])) (pathB l) = true ∧ underP (pathB l) (pathB (l ++ [n])) = false := by
  have hl : Okp l := ⟨by have := h.len; rw [List.length_append] at this; omega, fun m hm => h.names m (by simp [hm])⟩
  refine ⟨(under_iff (parP_path h) (parP_path hl)).2 (List.prefix_append _ _), ?_⟩
  cases hu : underP (pathB l) (pathB (l ++ [n])) with
  | false => rfl
  | true =>
    have := ((under_iff (parP_path hl) (parP_path h)).1 hu).length_le
    rw [List.length_append, List.length_singleton] at this
    omega

/-! A path, cut at its slashes. -/
def segs : List UInt8 → List (List UInt8)
  | [] => [[]]
  | c :: s => if c = 47 then [] :: segs s else match segs s with
    | [] => [[c]]
    | n :: l => (c :: n) :: l
theorem segs_ne (s : List UInt8) : segs s ≠ [] := by
  cases s with
  | nil => simp [segs]
  | cons c s =>
    unfold segs
    split
    · simp
    · split <;> simp
theorem pth_segs (s : List UInt8) : pth (segs s) = 47 :: s := by
  induction s with
  | nil => rfl
  | cons c s ih =>
    unfold segs
    split
    · rename_i h
      subst h
      show 47 :: ([] ++ pth (segs s)) = _
      rw [ih]
      rfl
    · split
      · rename_i h
        exact absurd h (segs_ne s)
      · rename_i n l h
        rw [h] at ih
        have e : n ++ pth l = s := by simpa [pth] using ih
        show 47 :: ((c :: n) ++ pth l) = _
        rw [List.cons_append, e]
theorem segs_slash (s : List UInt8) : segs (s ++ [47]) = segs s ++ [[]] := by
  induction s with
  | nil => rfl
  | cons c s ih =>
    rw [List.cons_append]
    unfold segs
    rw [ih]
    split
    · rfl
    · cases h : segs s with
      | nil => exact absurd h (segs_ne s)
      | cons n l => rfl
theorem segs_char {s : List UInt8} {c : UInt8} (hc : c ≠ 47) {l : List (List UInt8)} {n : List UInt8} (h : segs s = l ++ [n]) : segs (s ++ [c]) = l ++ [n ++ [c]] := by
  induction s generalizing l n with
  | nil =>
    have h : [[]] = l ++ [n] := h
    cases l with
    | nil =>
      obtain rfl : [] = n := by simpa using h
      show segs [c] = _
      simp [segs, hc]
    | cons k l => simp at h
  | cons d s ih =>
    rw [List.cons_append]
    unfold segs at h ⊢
    split at h
    · rename_i hd
      rw [if_pos hd]
      cases l with
      | nil =>
        have := segs_ne s
        simp at h
        exact absurd h.2 this
      | cons k l =>
        have h1 : [] = k ∧ segs s = l ++ [n] := by simpa using h
        rw [ih h1.2, ← h1.1]
        rfl
    · rename_i hd
      rw [if_neg hd]
      cases hs : segs s with
      | nil => exact absurd hs (segs_ne s)
      | cons k m =>
        rw [hs] at h
        have h : (d :: k) :: m = l ++ [n] := h
        cases l with
        | nil =>
          have h1 : d :: k = n ∧ m = [] := by simpa using h
          obtain ⟨rfl, rfl⟩ := h1
          rw [ih (l := []) (n := k) hs]
          rfl
        | cons j l =>
          have h1 : d :: k = j ∧ m = l ++ [n] := by simpa using h
          obtain ⟨rfl, rfl⟩ := h1
          rw [ih (l := k :: l) (n := n) hs]
          rfl
theorem segs_pth {n : List UInt8} {l : List (List UInt8)} (h : Names (n :: l)) : segs (n ++ pth l) = n :: l := by
  have key : ∀ (n s : List UInt8), (∀ c ∈ n, c ≠ 47) → ∀ k m, segs s = k :: m → segs (n ++ s) = (n ++ k) :: m := by
    intro n s hn k m hs
    induction n with
    | nil => exact hs
    | cons c n ih =>
      rw [List.cons_append]
      unfold segs
      rw [if_neg (hn c (by simp)), ih fun d hd => hn d (by simp [hd])]
      rfl
  induction l generalizing n with
  | nil =>
    have := key n [] (no_slash h.cons.1) [] [] rfl
    simpa [pth] using this
  | cons k l ih =>
    obtain ⟨h1, h2⟩ := h.cons
    have e := ih h2
    have hs : segs (pth (k :: l)) = [] :: k :: l := by
      show segs (47 :: (k ++ pth l)) = _
      unfold segs
      rw [if_pos rfl, e]
    have := key n _ (no_slash h1) [] (k :: l) hs
    simpa using this
theorem parP_empty : parP [] = none := by
  cases h : parP [] with
  | none => rfl
  | some l =>
    obtain ⟨_, hp⟩ := parP_some h
    obtain ⟨t, ht⟩ := path_slash l
    rw [ht] at hp
    cases hp
theorem parP_head {c : UInt8} {s : List UInt8} (hc : c ≠ 47) : parP (c :: s) = none := by
  cases h : parP (c :: s) with
  | none => rfl
  | some l =>
    obtain ⟨_, hp⟩ := parP_some h
    obtain ⟨t, ht⟩ := path_slash l
    rw [ht] at hp
    injection hp with hp
    exact absurd hp.symm hc
theorem parP_root : parP [47] = some [] := parP_path root_ok
theorem parP_cut {s : List UInt8} (h : Okp (segs s)) : parP (47 :: s) = some (segs s) := by
  refine parP_iff.2 ⟨h, ?_⟩
  unfold pathB
  rw [if_neg (segs_ne s), pth_segs]
theorem parP_bad {s : List UInt8} (hs : s ≠ []) (h : ¬ Okp (segs s)) : parP (47 :: s) = none := by
  cases hp : parP (47 :: s) with
  | none => rfl
  | some l =>
    exfalso
    obtain ⟨hl, he⟩ := parP_some hp
    cases l with
    | nil =>
      have : [47] = 47 :: s := he
      injection this with _ this
      exact hs this.symm
    | cons n l =>
      rw [path_cons] at he
      have he : n ++ pth l = s := by simpa [pth] using he
      have := segs_pth hl.names
      rw [he] at this
      rw [this] at h
      exact h hl
end Go.Proofs.Ythpppkkagepomaa.Path
