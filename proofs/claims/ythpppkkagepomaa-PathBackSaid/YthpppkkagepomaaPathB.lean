/-
  Paths on paper, byte by byte: what has been read of a path at a slash, and within a name; and what follows where it can't be one.
-/
import Derived.Test.YthpppkkagepomaaPathA
namespace Go.Proofs.Ythpppkkagepomaa.Path
open Go.Proofs.Ythpppkkagepomaa.Entry

/-- A path that goes on behind these names with a slash goes on with names. -/
theorem pth_go {L M : List (List UInt8)} {t : List UInt8} (hL : Names L) (hM : Names M) (h : pth M = pth L ++ 47 :: t) : ∃ M', M = L ++ M' ∧ Names M' ∧ pth M' = 47 :: t := by
  induction L generalizing M with
  | nil => exact ⟨M, rfl, hM, by simpa [pth] using h⟩
  | cons n L ih =>
    cases M with
    | nil => simp [pth] at h
    | cons k M =>
      obtain ⟨h1, h2⟩ := hL.cons
      obtain ⟨h3, h4⟩ := hM.cons
      have h : k ++ pth M = n ++ (pth L ++ 47 :: t) := by simpa [pth] using h
      have e1 := upto_name (no_slash h3) (pth_head M)
      have e2 := upto_name (n := n) (s := pth L ++ 47 :: t) (no_slash h1) (by
        rcases pth_head L with e | ⟨u, e⟩
        · exact .inr ⟨t, by rw [e]; rfl⟩
        · exact .inr ⟨u ++ 47 :: t, by rw [e]; rfl⟩)
      rw [h] at e1
      obtain ⟨M', he, hn, hp⟩ := ih h2 h4 (e1.2.symm.trans e2.2)
      exact ⟨M', by rw [he, e1.1.symm.trans e2.1]; rfl, hn, hp⟩
theorem parP_go {s : List UInt8} {L M : List (List UInt8)} {t : List UInt8} (hs : s ≠ [47]) (hL : Names L) (h : s = pth L ++ 47 :: t) (hM : parP s = some M) : Okp M ∧ ∃ M', M = L ++ M' ∧ Names M' ∧ pth M' = 47 :: t := by
  obtain ⟨ho, hp⟩ := parP_some hM
  refine ⟨ho, pth_go hL ho.names ?_⟩
  unfold pathB at hp
  split at hp
  · exact absurd hp.symm hs
  · rw [hp, h]

/-- What has been read at a slash: so many bytes are these names. -/
structure AtS (s : List UInt8) (p : Nat) (L : List (List UInt8)) : Prop where
  names : Names L
  len : L.length ≤ 16
  read : s = pth L ++ s.drop p
  le : p ≤ s.length
  at_ : p = 0 ∨ s[p]? = some 47
/-- What has been read within a name, that began at f. -/
structure AtN (s : List UInt8) (f p : Nat) (L : List (List UInt8)) : Prop where
  names : Names L
  len : L.length < 16
  read : s = pth L ++ 47 :: s.drop f
  fp : f ≤ p
  le : p ≤ s.length
  name : ∀ c ∈ (s.drop f).take (p - f), c ≠ 47
theorem AtS.zero (s : List UInt8) : AtS s 0 [] := ⟨Names.nil, by simp, rfl, Nat.zero_le _, .inl rfl⟩
theorem drop_get {s : List UInt8} {p : Nat} {c : UInt8} (h : s[p]? = some c) : s.drop p = c :: s.drop (p + 1) := by
  obtain ⟨hp, rfl⟩ := List.getElem?_eq_some_iff.1 h
  exact List.drop_eq_getElem_cons hp
theorem AtS.end {s : List UInt8} {L : List (List UInt8)} {p : Nat} (h : AtS s p L) (hp : p = s.length) : parP s = none := by
  rcases h.at_ with h0 | h0
  · have : s = [] := List.eq_nil_of_length_eq_zero (by omega)
    rw [this]
    exact parP_empty
  · have := (List.getElem?_eq_some_iff.1 h0).1
    omega
theorem AtS.other {s : List UInt8} {L : List (List UInt8)} {p : Nat} {c : UInt8} (h : AtS s p L) (hc : s[p]? = some c) (hne : c ≠ 47) : parP s = none := by
  rcases h.at_ with rfl | h0
  · have := drop_get hc
    rw [List.drop_zero] at this
    rw [this]
    exact parP_head hne
  · rw [hc] at h0
    injection h0 with h0
    exact absurd h0 hne
theorem AtS.full {s : List UInt8} {L : List (List UInt8)} {p : Nat} (h : AtS s p L) (hs : s ≠ [47]) (hc : s[p]? = some 47) (hl : L.length = 16) : parP s = none := by
  cases hM : parP s with
  | none => rfl
  | some M =>
    exfalso
    have hr := h.read
    rw [drop_get hc] at hr
    obtain ⟨ho, M', rfl, hn, hp⟩ := parP_go hs h.names hr hM
    have := ho.len
    rw [List.length_append] at this
    obtain rfl : M' = [] := List.eq_nil_of_length_eq_zero (by omega)
    simp [pth] at hp
theorem AtS.go {s : List UInt8} {L : List (List UInt8)} {p : Nat} (h : AtS s p L) (hc : s[p]? = some 47) (hl : L.length ≠ 16) : AtN s (p + 1) (p + 1) L := by
  have := (List.getElem?_eq_some_iff.1 hc).1
  refine ⟨h.names, by have := h.len; omega, ?_, Nat.le_refl _, by omega, fun c hc => ?_⟩
  · have hr := h.read
    rwa [drop_get hc] at hr
  · simp at hc
theorem take_more {s : List UInt8} {f p : Nat} {c : UInt8} (hf : f ≤ p) (hc : s[p]? = some c) : (s.drop f).take (p + 1 - f) = (s.drop f).take (p - f) ++ [c] := by
  have e : p + 1 - f = (p - f) + 1 := by omega
  have hc' : (s.drop f)[p - f]? = some c := by rw [List.getElem?_drop]; rw [show f + (p - f) = p by omega]; exact hc
  rw [e, List.take_add_one, hc']
  rfl
theorem AtN.char {s : List UInt8} {L : List (List UInt8)} {f p : Nat} {c : UInt8} (h : AtN s f p L) (hc : s[p]? = some c) (hne : c ≠ 47) : AtN s f (p + 1) L := by
  have hp := (List.getElem?_eq_some_iff.1 hc).1
  refine ⟨h.names, h.len, h.read, by have := h.fp; omega, by omega, fun d hd => ?_⟩
  rw [take_more h.fp hc] at hd
  rcases List.mem_append.1 hd with hd | hd
  · exact h.name d hd
  · rw [List.mem_singleton.1 hd]; exact hne
theorem AtN.split {s : List UInt8} {L : List (List UInt8)} {f p : Nat} (h : AtN s f p L) : s.drop f = (s.drop f).take (p - f) ++ s.drop p := by
  have e : (s.drop f).drop (p - f) = s.drop p := by rw [List.drop_drop]; congr 1; have := h.fp; omega
  rw [← e, List.take_append_drop]
theorem AtN.rest {s : List UInt8} {p : Nat} (hc : p = s.length ∨ s[p]? = some 47) : s.drop p = [] ∨ ∃ t, s.drop p = 47 :: t := by
  rcases hc with rfl | hc
  · exact .inl (List.drop_length)
  · exact .inr ⟨_, drop_get hc⟩
theorem AtN.bad {s : List UInt8} {L : List (List UInt8)} {f p : Nat} (h : AtN s f p L) (hs : s ≠ [47]) (hc : p = s.length ∨ s[p]? = some 47) (hb : nameB ((s.drop f).take (p - f)) = false) : parP s = none := by
  cases hM : parP s with
  | none => rfl
  | some M =>
    exfalso
    obtain ⟨ho, M', rfl, hn, hp⟩ := parP_go hs h.names h.read hM
    cases M' with
    | nil => simp [pth] at hp
    | cons k M' =>
      obtain ⟨h1, h2⟩ := hn.cons
      have hp : k ++ pth M' = s.drop f := by simpa [pth] using hp
      rw [h.split] at hp
      have e1 := upto_name (no_slash h1) (pth_head M')
      have e2 := upto_name h.name (AtN.rest hc)
      rw [hp] at e1
      rw [e2.1.symm.trans e1.1] at hb
      rw [hb] at h1
      cases h1
theorem AtN.more {s : List UInt8} {L : List (List UInt8)} {f p : Nat} (h : AtN s f p L) (hb : nameB ((s.drop f).take (p - f)) = true) : Names (L ++ [(s.drop f).take (p - f)]) ∧ (L ++ [(s.drop f).take (p - f)]).length ≤ 16 ∧ s = pth (L ++ [(s.drop f).take (p - f)]) ++ s.drop p := by
  refine ⟨fun n hn => ?_, by rw [List.length_append, List.length_singleton]; have := h.len; omega, ?_⟩
  · rcases List.mem_append.1 hn with hn | hn
    · exact h.names n hn
    · rw [List.mem_singleton.1 hn]; exact hb
  · rw [pth_append]
    show s = pth L ++ (47 :: ((s.drop f).take (p - f) ++ [])) ++ s.drop p
    rw [List.append_nil, List.append_assoc, List.cons_append, ← h.split]
    exact h.read
theorem AtN.slash {s : List UInt8} {L : List (List UInt8)} {f p : Nat} (h : AtN s f p L) (hb : nameB ((s.drop f).take (p - f)) = true) (hc : s[p]? = some 47) : AtS s p (L ++ [(s.drop f).take (p - f)]) := by
  obtain ⟨h1, h2, h3⟩ := h.more hb
  exact ⟨h1, h2, h3, h.le, .inr hc⟩
theorem AtN.done {s : List UInt8} {L : List (List UInt8)} {f p : Nat} (h : AtN s f p L) (hb : nameB ((s.drop f).take (p - f)) = true) (hc : p = s.length) : parP s = some (L ++ [(s.drop f).take (p - f)]) := by
  obtain ⟨h1, h2, h3⟩ := h.more hb
  subst hc
  rw [List.drop_length, List.append_nil] at h3
  refine parP_iff.2 ⟨⟨h2, h1⟩, ?_⟩
  unfold pathB
  rw [if_neg (by simp)]
  exact h3.symm
theorem parse_none {s : List UInt8} (h : parP s = none) : parseP s = ([], 130) := by
  unfold parseP
  rw [h]
theorem parse_some {s : List UInt8} {l : List (List UInt8)} (h : parP s = some l) : parseP s = (l, 0) := by
  unfold parseP
  rw [h]
/-! A text cut at its slashes, byte by byte. -/
/-- So much is cut: no slash yet, or the piece at hand began at f. -/
def Cut (s : List UInt8) (i : Nat) (k : Int) (L : List (List UInt8)) : Prop :=
  L.length ≤ i ∧ ((k = -1 ∧ L = [] ∧ ∀ c ∈ s.take i, c ≠ 47) ∨ ∃ (f : Nat) (a t : List UInt8), k = (f : Int) ∧ 0 < f ∧ f ≤ i ∧ (∀ c ∈ a, c ≠ 47) ∧ s.take i = a ++ 47 :: t ∧ segs t = L ++ [(s.drop f).take (i - f)])
theorem Cut.zero (s : List UInt8) : Cut s 0 (-1) [] := ⟨Nat.le_refl _, .inl ⟨rfl, rfl, fun c hc => by simp at hc⟩⟩
theorem take_one {s : List UInt8} {i : Nat} {c : UInt8} (hc : s[i]? = some c) : s.take (i + 1) = s.take i ++ [c] := by
  rw [List.take_add_one, hc]
  rfl
theorem Cut.first {s : List UInt8} {i : Nat} {L : List (List UInt8)} (h : Cut s i (-1) L) (hc : s[i]? = some 47) : Cut s (i + 1) ((i + 1 : Nat) : Int) L := by
  obtain ⟨hl, ⟨_, rfl, hn⟩ | ⟨f, a, t, h1, h2, _⟩⟩ := h
  · refine ⟨Nat.zero_le _, .inr ⟨i + 1, s.take i, [], rfl, by omega, Nat.le_refl _, hn, take_one hc, ?_⟩⟩
    simp [segs]
  · omega
theorem Cut.slash {s : List UInt8} {i f : Nat} {L : List (List UInt8)} (h : Cut s i (f : Int) L) (hc : s[i]? = some 47) : Cut s (i + 1) ((i + 1 : Nat) : Int) (L ++ [(s.drop f).take (i - f)]) := by
  obtain ⟨hl, ⟨h0, _⟩ | ⟨f', a, t, h1, h2, h3, h4, h5, h6⟩⟩ := h
  · omega
  · obtain rfl : f = f' := by omega
    refine ⟨by rw [List.length_append, List.length_singleton]; omega, .inr ⟨i + 1, a, t ++ [47], rfl, by omega, Nat.le_refl _, h4, ?_, ?_⟩⟩
    · rw [take_one hc, h5, List.append_assoc]
      rfl
    · rw [segs_slash, h6]
      simp
theorem Cut.none {s : List UInt8} {i : Nat} {c : UInt8} {L : List (List UInt8)} (h : Cut s i (-1) L) (hc : s[i]? = some c) (hne : c ≠ 47) : Cut s (i + 1) (-1) L := by
  obtain ⟨hl, ⟨_, rfl, hn⟩ | ⟨f, a, t, h1, h2, _⟩⟩ := h
  · refine ⟨Nat.zero_le _, .inl ⟨rfl, rfl, fun d hd => ?_⟩⟩
    rw [take_one hc] at hd
    rcases List.mem_append.1 hd with hd | hd
    · exact hn d hd
    · rw [List.mem_singleton.1 hd]; exact hne
  · omega
theorem Cut.char {s : List UInt8} {i f : Nat} {c : UInt8} {L : List (List UInt8)} (h : Cut s i (f : Int) L) (hc : s[i]? = some c) (hne : c ≠ 47) : Cut s (i + 1) (f : Int) L := by
  obtain ⟨hl, ⟨h0, _⟩ | ⟨f', a, t, h1, h2, h3, h4, h5, h6⟩⟩ := h
  · omega
  · obtain rfl : f = f' := by omega
    refine ⟨by omega, .inr ⟨f, a, t ++ [c], rfl, h2, by omega, h4, ?_, ?_⟩⟩
    · rw [take_one hc, h5, List.append_assoc]
      rfl
    · rw [segs_char hne h6, take_more h3 hc]
theorem Cut.le {s : List UInt8} {i f : Nat} {L : List (List UInt8)} (h : Cut s i (f : Int) L) : 0 < f ∧ f ≤ i := by
  obtain ⟨hl, ⟨h0, _⟩ | ⟨f', a, t, h1, h2, h3, _⟩⟩ := h
  · omega
  · omega
/-- These names, or none. -/
def Fin (s : List UInt8) (l : List (List UInt8)) : Prop := ∀ M, parP s = some M → M = l
theorem Cut.fin_none {s : List UInt8} {L : List (List UInt8)} (h : Cut s s.length (-1) L) : Fin s L ∧ L = [] := by
  obtain ⟨hl, ⟨_, rfl, hn⟩ | ⟨f, a, t, h1, h2, _⟩⟩ := h
  · refine ⟨fun M hM => ?_, rfl⟩
    exfalso
    obtain ⟨_, hp⟩ := parP_some hM
    obtain ⟨t, ht⟩ := path_slash M
    rw [hp] at ht
    rw [List.take_length, ht] at hn
    exact hn 47 (by simp) rfl
  · omega
theorem Cut.fin_root {s : List UInt8} {f : Nat} {L : List (List UInt8)} (h : Cut s s.length (f : Int) L) (hs : s = [47]) : Fin s L ∧ L = [] := by
  obtain ⟨hl, ⟨h0, _⟩ | ⟨f', a, t, h1, h2, h3, h4, h5, h6⟩⟩ := h
  · omega
  · subst hs
    have hz : L = [] := by
      cases a with
      | nil =>
        obtain rfl : t = [] := by simpa using h5.symm
        have := congrArg List.length h6
        simp [segs] at this
        exact this
      | cons c a => simp at h5
    refine ⟨fun M hM => ?_, hz⟩
    rw [parP_root] at hM
    injection hM with hM
    rw [← hM, hz]
theorem Cut.fin {s : List UInt8} {f : Nat} {L : List (List UInt8)} (h : Cut s s.length (f : Int) L) (hs : s ≠ [47]) : Fin s (L ++ [s.drop f]) := by
  obtain ⟨hl, ⟨h0, _⟩ | ⟨f', a, t, h1, h2, h3, h4, h5, h6⟩⟩ := h
  · omega
  · obtain rfl : f = f' := by omega
    intro M hM
    obtain ⟨ho, hp⟩ := parP_some hM
    have e : (s.drop f).take (s.length - f) = s.drop f := List.take_of_length_le (by rw [List.length_drop]; omega)
    rw [e] at h6
    rw [List.take_length] at h5
    cases M with
    | nil => exact absurd hp.symm hs
    | cons n M =>
      rw [path_cons] at hp
      rw [h5] at hp
      cases a with
      | nil =>
        have hp : n ++ pth M = t := by simpa [pth] using hp
        have := segs_pth ho.names
        rw [hp, h6] at this
        exact this.symm
      | cons c a =>
        have hp : 47 :: (n ++ pth M) = c :: (a ++ 47 :: t) := hp
        injection hp with hp
        exact absurd hp.symm (h4 c (by simp))
theorem Fin.no {s : List UInt8} {l : List (List UInt8)} (h : Fin s l) (hn : ¬ (Okp l ∧ pathB l = s)) : parP s = none := by
  cases hM : parP s with
  | none => rfl
  | some M =>
    have := h M hM
    subst this
    exact absurd (parP_some hM) hn
end Go.Proofs.Ythpppkkagepomaa.Path
