/-
  Rows and what is needed, side by side on paper: each label that is needed is in one row, with that many refs.
-/
import Derived.Test.YtdecllllcoflbaaF
namespace Go.Proofs.Ytdecllllcoflbaa
open Go.RowKit Intern

def busy (r : Rw) : Bool := !free r
structure Inv (T : List Rw) (at_ : Int → Int) (there : Int → Bool) (m J : Nat) : Prop where
  right : Right T
  have_ : ∀ (a i : Nat) r, fnd T a = some i → T[i]? = some r → at_ (a : Int) = r.refs ∧ there (a : Int) = true
  not_ : ∀ a : Nat, fnd T a = none → at_ (a : Int) = 0 ∧ there (a : Int) = false
  cnt : m = T.countP busy
  top : ∀ (i : Nat) r, T[i]? = some r → r.refs ≤ (J : Int)

theorem fnd_frees (a : Nat) : fnd frees a = none := by
  cases h : fnd frees a with
  | none => rfl
  | some i =>
    obtain ⟨r, h1, h2, _⟩ := fnd_some h
    simp only [frees, List.getElem?_replicate] at h1
    split at h1
    · injection h1 with h1; subst h1; exact absurd rfl h2
    · cases h1
theorem inv_start : Inv frees (fun _ => 0) (fun _ => false) 0 0 := by
  refine ⟨right_frees, fun a i r h => ?_, fun a _ => ⟨rfl, rfl⟩, by decide, fun i r h => ?_⟩
  · rw [fnd_frees] at h; cases h
  · simp only [frees, List.getElem?_replicate] at h
    split at h
    · injection h with h; subst h; exact Int.le_refl _
    · cases h

/-- A label's row where another row is another one. -/
theorem fnd_set_other {T : List Rw} {i b : Nat} {r r' : Rw} (h' : Right (T.set i r')) (hi : T[i]? = some r) (h1 : ¬ (r.refs ≠ 0 ∧ r.lab = b)) (h2 : ¬ (r'.refs ≠ 0 ∧ r'.lab = b)) : fnd (T.set i r') b = fnd T b := by
  have hil : i < T.length := (List.getElem?_eq_some_iff.1 hi).1
  cases hf : fnd T b with
  | some k =>
    obtain ⟨s, hk, h0, hb, _⟩ := fnd_some hf
    have hki : k ≠ i := by
      intro e
      subst e
      rw [hi] at hk
      injection hk with hk
      subst hk
      exact h1 ⟨h0, hb⟩
    have hk' : (T.set i r')[k]? = some s := by rw [List.getElem?_set_ne (fun e => hki e.symm), hk]
    have := h'.fnd_at hk' h0
    rw [hb] at this
    exact this
  | none =>
    cases hf' : fnd (T.set i r') b with
    | none => rfl
    | some k =>
      obtain ⟨s, hk, h0, hb, _⟩ := fnd_some hf'
      by_cases hki : i = k
      · subst hki
        rw [List.getElem?_set_self hil] at hk
        injection hk with hk
        subst hk
        exact absurd ⟨h0, hb⟩ h2
      · rw [List.getElem?_set_ne hki] at hk
        exact absurd ⟨h0, hb⟩ (fnd_none hf k s hk)
theorem get_set {T : List Rw} {i k : Nat} {r' s : Rw} (h : (T.set i r')[k]? = some s) : (k = i ∧ s = r') ∨ (k ≠ i ∧ T[k]? = some s) := by
  rw [List.getElem?_set] at h
  split at h
  · rename_i e
    split at h
    · injection h with h
      exact .inl ⟨e.symm, h.symm⟩
    · cases h
  · rename_i e
    exact .inr ⟨fun e' => e e'.symm, h⟩

section
variable {T : List Rw} {at_ : Int → Int} {there : Int → Bool} {m J a i : Nat} {r : Rw}
/-- A label in a row, needed so often. -/
theorem Inv.put {r' : Rw} (h : Inv T at_ there m J) (h' : Right (T.set i r')) (hi : T[i]? = some r) (h1 : r.refs ≠ 0 → r.lab = a) (ha : r'.lab = a) (h0 : r'.refs ≠ 0) (hJ : r'.refs ≤ ((J + 1 : Nat) : Int)) (hm : (if there (a : Int) then m else m + 1) = (T.set i r').countP busy) :
    Inv (T.set i r') (fun k => if k = (a : Int) then r'.refs else at_ k) (fun k => k == (a : Int) || there k) (if there (a : Int) then m else m + 1) (J + 1) := by
  have hil : i < T.length := (List.getElem?_eq_some_iff.1 hi).1
  have hfa : fnd (T.set i r') a = some i := by
    have := h'.fnd_at (List.getElem?_set_self hil) h0
    rwa [ha] at this
  have hfb : ∀ b, b ≠ a → fnd (T.set i r') b = fnd T b := fun b hb => fnd_set_other h' hi (fun ⟨h2, h3⟩ => hb (by rw [← h3, h1 h2])) (fun ⟨_, h3⟩ => hb (by rw [← h3, ha]))
  have hc : ∀ b : Nat, b ≠ a → (b : Int) ≠ (a : Int) := fun b hb e => hb (by omega)
  refine ⟨h', fun b k s hf hk => ?_, fun b hf => ?_, hm, fun k s hk => ?_⟩
  · by_cases hb : b = a
    · subst hb
      rw [hfa] at hf
      injection hf with hf
      subst hf
      rw [List.getElem?_set_self hil] at hk
      injection hk with hk
      subst hk
      simp
    · have hf' := hf
      rw [hfb b hb] at hf
      have hki : k ≠ i := by
        intro e
        subst e
        obtain ⟨s', hs', _, hs2, _⟩ := fnd_some hf'
        rw [List.getElem?_set_self hil] at hs'
        injection hs' with hs'
        rw [← hs', ha] at hs2
        exact hb hs2.symm
      rw [List.getElem?_set_ne (fun e => hki e.symm)] at hk
      have := h.have_ b k s hf hk
      simp [hc b hb, this]
  · have hb : b ≠ a := by
      intro e
      subst e
      rw [hfa] at hf
      cases hf
    rw [hfb b hb] at hf
    have := h.not_ b hf
    simp [hc b hb, this]
  · rcases get_set hk with ⟨_, rfl⟩ | ⟨_, hk⟩
    · exact hJ
    · have := h.top k s hk
      omega
/-- A row that is free again. -/
theorem Inv.drop (h : Inv T at_ there m J) (h' : Right (T.set i .z)) (hi : T[i]? = some r) (ha : r.lab = a) (h0 : r.refs ≠ 0) (hm : m - 1 = (T.set i .z).countP busy) :
    Inv (T.set i .z) (fun k => if k = (a : Int) then 0 else at_ k) (fun k => k != (a : Int) && there k) (m - 1) (J + 1) := by
  have hil : i < T.length := (List.getElem?_eq_some_iff.1 hi).1
  have hfa : fnd (T.set i .z) a = none := by
    cases hf : fnd (T.set i .z) a with
    | none => rfl
    | some k =>
      obtain ⟨s, hk, hs0, hsa, _⟩ := fnd_some hf
      rcases get_set hk with ⟨_, rfl⟩ | ⟨hki, hk⟩
      · exact absurd rfl hs0
      · exact absurd (h.right.one k i s r hk hi hs0 h0 (by rw [hsa, ha])) hki
  have hfb : ∀ b, b ≠ a → fnd (T.set i .z) b = fnd T b := fun b hb => fnd_set_other h' hi (fun ⟨_, h3⟩ => hb (by rw [← h3, ha])) (fun ⟨h2, _⟩ => h2 rfl)
  have hc : ∀ b : Nat, b ≠ a → (b : Int) ≠ (a : Int) := fun b hb e => hb (by omega)
  refine ⟨h', fun b k s hf hk => ?_, fun b hf => ?_, hm, fun k s hk => ?_⟩
  · have hb : b ≠ a := by
      intro e
      subst e
      rw [hfa] at hf
      cases hf
    rw [hfb b hb] at hf
    have hki : k ≠ i := by
      intro e
      subst e
      obtain ⟨s', hs', _, hs2, _⟩ := fnd_some hf
      rw [hi] at hs'
      injection hs' with hs'
      rw [← hs', ha] at hs2
      exact hb hs2.symm
    rw [List.getElem?_set_ne (fun e => hki e.symm)] at hk
    have := h.have_ b k s hf hk
    simp [hc b hb, this]
  · by_cases hb : b = a
    · subst hb; simp
    · rw [hfb b hb] at hf
      have := h.not_ b hf
      simp [hc b hb, this]
  · rcases get_set hk with ⟨_, rfl⟩ | ⟨_, hk⟩
    · show (0 : Int) ≤ ((J + 1 : Nat) : Int); omega
    · have := h.top k s hk
      omega
theorem Inv.up (h : Inv T at_ there m J) : Inv T at_ there m (J + 1) := ⟨h.right, h.have_, h.not_, h.cnt, fun i r hr => by have := h.top i r hr; omega⟩

/-- The four things that an act does. -/
theorem Inv.more (h : Inv T at_ there m J) (hJ : J ≤ 300) (hf : fnd T a = some i) (hi : T[i]? = some r) :
    retP T a = ⟨T.set i ⟨a, r.refs + 1⟩, i, 0⟩ ∧ at_ (a : Int) = r.refs ∧ 0 < r.refs ∧ r.refs ≤ 300 ∧ Inv (T.set i ⟨a, r.refs + 1⟩) (fun k => if k = (a : Int) then r.refs + 1 else at_ k) (fun k => k == (a : Int) || there k) (if there (a : Int) then m else m + 1) (J + 1) := by
  obtain ⟨r', hi', h0, ha, _⟩ := fnd_some hf
  rw [hi] at hi'
  injection hi' with hi'
  subst hi'
  have hil : i < T.length := (List.getElem?_eq_some_iff.1 hi).1
  have hlo := fits_lo (h.right.fits i r hi)
  have ht := h.top i r hi
  obtain ⟨h1, h2⟩ := h.have_ a i r hf hi
  have hR := h.right.more hf hi (by omega)
  rw [ha] at hR
  refine ⟨retP_more h.right hf hi (by omega), h1, by omega, by omega, ?_⟩
  refine h.put hR hi (fun _ => ha) rfl (by show r.refs + 1 ≠ 0; omega) (by show r.refs + 1 ≤ ((J + 1 : Nat) : Int); omega) ?_
  rw [h2, if_pos rfl, List.countP_set hil, h.cnt]
  obtain ⟨_, hg⟩ := List.getElem?_eq_some_iff.1 hi
  have b1 : busy T[i] = true := by rw [hg]; simp [busy, free, h0]
  have b2 : busy ⟨a, r.refs + 1⟩ = true := by simp [busy, free]; omega
  have hp : 0 < T.countP busy := List.countP_pos_iff.2 ⟨T[i], List.getElem_mem _, b1⟩
  rw [b1, b2]
  simp
  omega
theorem Inv.new (h : Inv T at_ there m J) (hf : fnd T a = none) (hi : freeAt T = some i) :
    retP T a = ⟨T.set i ⟨a, 1⟩, i, 0⟩ ∧ at_ (a : Int) = 0 ∧ Inv (T.set i ⟨a, 1⟩) (fun k => if k = (a : Int) then 1 else at_ k) (fun k => k == (a : Int) || there k) (if there (a : Int) then m else m + 1) (J + 1) := by
  obtain ⟨r, hr, h0, _⟩ := freeAt_some hi
  have hil : i < T.length := (List.getElem?_eq_some_iff.1 hr).1
  obtain ⟨h1, h2⟩ := h.not_ a hf
  refine ⟨retP_new h.right hf hi, h1, ?_⟩
  refine h.put (h.right.new hf hi) hr (fun h => absurd h0 h) rfl (by show (1 : Int) ≠ 0; decide) (by show (1 : Int) ≤ ((J + 1 : Nat) : Int); omega) ?_
  rw [h2, List.countP_set hil, h.cnt]
  obtain ⟨_, hg⟩ := List.getElem?_eq_some_iff.1 hr
  have b1 : busy T[i] = false := by rw [hg]; simp [busy, free, h0]
  rw [b1]
  rfl
theorem Inv.full (h : Inv T at_ there m J) (hf : fnd T a = none) (hi : freeAt T = none) : retP T a = .bad 5 ∧ m = 16 := by
  refine ⟨retP_full h.right hf hi, ?_⟩
  rw [h.cnt, List.countP_eq_length.2, h.right.len]
  intro r hr
  obtain ⟨k, hk⟩ := List.mem_iff_getElem?.1 hr
  have := freeAt_none hi k r hk
  simp [busy, free, this]
theorem Inv.less (h : Inv T at_ there m J) (hf : fnd T a = some i) (hi : T[i]? = some r) (h1 : 1 < r.refs) :
    relP T (i : Int) = ⟨T.set i ⟨a, r.refs - 1⟩, 0, 0⟩ ∧ at_ (a : Int) = r.refs ∧ Inv (T.set i ⟨a, r.refs - 1⟩) (fun k => if k = (a : Int) then r.refs - 1 else at_ k) (fun k => k == (a : Int) || there k) (if there (a : Int) then m else m + 1) (J + 1) := by
  obtain ⟨r', hi', h0, ha, _⟩ := fnd_some hf
  rw [hi] at hi'
  injection hi' with hi'
  subst hi'
  have hil : i < T.length := (List.getElem?_eq_some_iff.1 hi).1
  have ht := h.top i r hi
  obtain ⟨h2, h3⟩ := h.have_ a i r hf hi
  have hl : r.less = ⟨a, r.refs - 1⟩ := by unfold Rw.less; rw [if_neg (by omega), ha]
  have hR := h.right.less hi h0
  rw [hl] at hR
  refine ⟨by rw [relP_yes h.right hi h0, hl], h2, ?_⟩
  refine h.put hR hi (fun _ => ha) rfl (by show r.refs - 1 ≠ 0; omega) (by show r.refs - 1 ≤ ((J + 1 : Nat) : Int); omega) ?_
  rw [h3, if_pos rfl, List.countP_set hil, h.cnt]
  obtain ⟨_, hg⟩ := List.getElem?_eq_some_iff.1 hi
  have b1 : busy T[i] = true := by rw [hg]; simp [busy, free, h0]
  have b2 : busy ⟨a, r.refs - 1⟩ = true := by simp [busy, free]; omega
  have hp : 0 < T.countP busy := List.countP_pos_iff.2 ⟨T[i], List.getElem_mem _, b1⟩
  rw [b1, b2]
  simp
  omega
theorem Inv.gone (h : Inv T at_ there m J) (hf : fnd T a = some i) (hi : T[i]? = some r) (h1 : r.refs = 1) :
    relP T (i : Int) = ⟨T.set i .z, 0, 0⟩ ∧ at_ (a : Int) = 1 ∧ there (a : Int) = true ∧ Inv (T.set i .z) (fun k => if k = (a : Int) then 0 else at_ k) (fun k => k != (a : Int) && there k) (m - 1) (J + 1) := by
  obtain ⟨r', hi', h0, ha, _⟩ := fnd_some hf
  rw [hi] at hi'
  injection hi' with hi'
  subst hi'
  have hil : i < T.length := (List.getElem?_eq_some_iff.1 hi).1
  obtain ⟨h2, h3⟩ := h.have_ a i r hf hi
  have hl : r.less = .z := by unfold Rw.less; rw [if_pos h1]
  have hR := h.right.less hi h0
  rw [hl] at hR
  refine ⟨by rw [relP_yes h.right hi h0, hl], by rw [h2, h1], h3, ?_⟩
  refine h.drop hR hi ha h0 ?_
  rw [List.countP_set hil, h.cnt]
  obtain ⟨_, hg⟩ := List.getElem?_eq_some_iff.1 hi
  have b1 : busy T[i] = true := by rw [hg]; simp [busy, free, h0]
  rw [b1]
  rfl
end
end Go.Proofs.Ytdecllllcoflbaa
