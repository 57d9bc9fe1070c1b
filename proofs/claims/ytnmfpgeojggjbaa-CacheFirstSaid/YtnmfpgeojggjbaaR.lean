/-
  Which sector goes, and in what order the sectors are told; how often each one is pinned: no program occurs here.
-/
import Derived.Test.YtnmfpgeojggjbaaQ
namespace Go.Proofs.Ytnmfpgeojggjbaa
open Go.RowKit

/-- How often each sector is pinned: 0 where it is not kept. -/
def PinsAre (at_ : Int → Int) (L : List (Nat × Sl)) : Prop := (∀ s x, (s, x) ∈ L → at_ (s : Int) = (x.pins : Int)) ∧ ∀ a, (∀ p ∈ L, (p.1 : Int) ≠ a) → at_ a = 0
/-- A sector was asked: what is kept then. -/
def TouchR (room : Nat) (L : List (Nat × Sl)) (s : Int) (L' : List (Nat × Sl)) : Prop :=
  ∃ t : Nat, s = (t : Int) ∧ ((∃ (i : Nat) (x y : Sl), L[i]? = some (t, x) ∧ L' = L.eraseIdx i ++ [(t, y)] ∧ y.pins = x.pins) ∨
    ((∀ p ∈ L, p.1 ≠ t) ∧ ∃ (L1 : List (Nat × Sl)) (k k1 : Dk Nat) (y : Sl), roomK room L k = some (L1, k1) ∧ L' = L1 ++ [(t, y)] ∧ y.pins = 0))

section
variable {n P room N : Nat} {V : Nat → Nat} {L L' : List (Nat × Sl)} {k k' : Dk Nat} {at_ : Int → Int} {s err : Int} {c : Nat}

theorem get_touch (hg : GetR room L k s L' k' 0) : TouchR room L s L' := by
  rcases hg with ⟨i, t, x, e, hL, e1, _, _⟩ | ⟨t, c, L1, e, hno, ht, hk, hcc, e1, _⟩ | ⟨t, e, hno, ht, hk, _, _, h⟩ | ⟨hh, _, _, h⟩
  · exact ⟨t, e, .inl ⟨i, x, x, hL, e1, rfl⟩⟩
  · exact ⟨t, e, .inr ⟨hno, L1, _, _, _, hk, e1, rfl⟩⟩
  · cases h
  · cases h
theorem put_touch (hg : PutR room L k s c L' k' 0) : TouchR room L s L' := by
  rcases hg with ⟨i, t, x, e, hL, e1, _, _⟩ | ⟨t, L1, e, hno, ht, hk, e1, _⟩ | ⟨t, e, hno, ht, hk, _, _, h⟩ | ⟨hh, _, _, h⟩
  · exact ⟨t, e, .inl ⟨i, x, _, hL, e1, rfl⟩⟩
  · exact ⟨t, e, .inr ⟨hno, L1, _, _, _, hk, e1, rfl⟩⟩
  · cases h
  · cases h
theorem get_still (hg : GetR room L k s L' k' err) (h : err ≠ 0) : L' = L := by
  rcases hg with ⟨i, t, x, e, hL, e1, _, rfl⟩ | ⟨t, c, L1, e, hno, ht, hk, hcc, e1, rfl⟩ | ⟨t, e, hno, ht, hk, rfl, _, _⟩ | ⟨hh, rfl, _, _⟩
  · exact absurd rfl h
  · exact absurd rfl h
  · rfl
  · rfl
theorem put_still (hg : PutR room L k s c L' k' err) (h : err ≠ 0) : L' = L := by
  rcases hg with ⟨i, t, x, e, hL, e1, _, rfl⟩ | ⟨t, L1, e, hno, ht, hk, e1, rfl⟩ | ⟨t, e, hno, ht, hk, rfl, _, _⟩ | ⟨hh, rfl, _, _⟩
  · exact absurd rfl h
  · exact absurd rfl h
  · rfl
  · rfl

theorem PinsAre.start : PinsAre (fun _ => 0) [] := ⟨by simp, fun _ _ => rfl⟩
theorem PinsAre.touch (h : PinsAre at_ L) (hc : Coh n P room V N L k) (ht : TouchR room L s L') : PinsAre at_ L' := by
  obtain ⟨t, rfl, ⟨i, x, y, hL, rfl, hy⟩ | ⟨hno, L1, k0, k1, y, hk, rfl, hy⟩⟩ := ht
  · have hm := List.mem_of_getElem? hL
    refine ⟨fun s z hz => ?_, fun a ha => h.2 a fun p hp => ?_⟩
    · rcases List.mem_append.1 hz with hz | hz
      · exact h.1 s z ((mem_erase_key hc.nod hL).1 hz).1
      · simp only [List.mem_singleton, Prod.mk.injEq] at hz
        obtain ⟨rfl, rfl⟩ := hz
        rw [hy]
        exact h.1 _ x hm
    · by_cases hpt : p.1 = t
      · have := ha (t, y) (by simp)
        rw [hpt]
        exact this
      · exact ha p (List.mem_append.2 (.inl ((mem_erase_key hc.nod hL).2 ⟨hp, hpt⟩)))
  · have hs := roomK_sub hk
    refine ⟨fun s z hz => ?_, fun a ha => ?_⟩
    · rcases List.mem_append.1 hz with hz | hz
      · exact h.1 s z (hs.subset hz)
      · simp only [List.mem_singleton, Prod.mk.injEq] at hz
        obtain ⟨rfl, rfl⟩ := hz
        rw [hy]
        exact h.2 _ fun p hp e => hno p hp (by omega)
    · rcases roomK_cases hk with ⟨_, rfl, _⟩ | ⟨_, i, q, x, _, hL, hp, rfl, _⟩
      · exact h.2 a fun p hp => ha p (by simp [hp])
      · by_cases hqa : (q : Int) = a
        · subst hqa
          rw [h.1 q x (List.mem_of_getElem? hL), hp]
          rfl
        · refine h.2 a fun p hp' => ?_
          by_cases hpq : p.1 = q
          · rw [hpq]; exact hqa
          · exact ha p (List.mem_append.2 (.inl ((mem_erase_key hc.nod hL).2 ⟨hp', hpq⟩)))
theorem PinsAre.slot (h : PinsAre at_ L) (hc : Coh n P room V N L k) {i t : Nat} {x y : Sl} (hL : L[i]? = some (t, x)) : PinsAre (fun a => if a = (t : Int) then (y.pins : Int) else at_ a) (L.set i (t, y)) := by
  have hil := (List.getElem?_eq_some_iff.1 hL).1
  refine ⟨fun s z hz => ?_, fun a ha => ?_⟩
  · obtain ⟨j, hj, e⟩ := List.getElem_of_mem hz
    rw [List.getElem_set] at e
    split at e
    · injection e with e1 e2
      subst e1 e2
      simp only [if_true]
    · rename_i hne
      have hj' : j < L.length := by simpa using hj
      have hst : s ≠ t := fun e2 => hne (by
        obtain ⟨hi, he⟩ := List.getElem?_eq_some_iff.1 hL
        exact nodup_inj hc.nod (by simpa using hi) (by simpa using hj') (by simp [he, e, e2]))
      simp only
      rw [if_neg (by omega)]
      exact h.1 s z (e ▸ List.getElem_mem hj')
  · have hat : a ≠ (t : Int) := fun e => ha (t, y) (List.mem_iff_getElem?.2 ⟨i, List.getElem?_set_self hil⟩) e.symm
    simp only
    rw [if_neg hat]
    refine h.2 a fun p hp => ?_
    by_cases hpt : p.1 = t
    · rw [hpt]; exact fun e => hat e.symm
    · obtain ⟨j, hj, rfl⟩ := List.getElem_of_mem hp
      refine ha _ (List.mem_iff_getElem?.2 ⟨j, ?_⟩)
      rw [List.getElem?_set_ne (fun e => hpt (by subst e; obtain ⟨_, he⟩ := List.getElem?_eq_some_iff.1 hL; rw [he])), List.getElem?_eq_getElem hj]
theorem PinsAre.pin (h : PinsAre at_ L) (hc : Coh n P room V N L k) (hg : PinR L s L' 0) : PinsAre (fun a => if a = s then at_ s + 1 else at_ a) L' ∧ at_ s ≤ P ∧ 0 ≤ at_ s := by
  rcases hg with ⟨i, t, x, rfl, hL, rfl, _⟩ | ⟨_, _, h0⟩
  · have hm := List.mem_of_getElem? hL
    have h1 := h.slot hc hL (y := { x with pins := x.pins + 1 })
    have h2 := h.1 t x hm
    have h3 := hc.pins _ hm
    simp only at h1 h3
    rw [h2]
    refine ⟨?_, by omega, by omega⟩
    have e : ((x.pins + 1 : Nat) : Int) = (x.pins : Int) + 1 := by omega
    rw [← e]
    exact h1
  · cases h0
theorem PinsAre.unpin (h : PinsAre at_ L) (hc : Coh n P room V N L k) (hg : UnpinR L s L' 0) : PinsAre (fun a => if a = s then at_ s - 1 else at_ a) L' ∧ at_ s ≤ P ∧ 0 ≤ at_ s := by
  rcases hg with ⟨i, t, x, rfl, hL, hz, rfl, _⟩ | ⟨_, _, h0⟩
  · have hm := List.mem_of_getElem? hL
    have h1 := h.slot hc hL (y := { x with pins := x.pins - 1 })
    have h2 := h.1 t x hm
    have h3 := hc.pins _ hm
    simp only at h1 h3
    rw [h2]
    refine ⟨?_, by omega, by omega⟩
    have e : ((x.pins - 1 : Nat) : Int) = (x.pins : Int) - 1 := by omega
    rw [← e]
    exact h1
  · cases h0
theorem pin_still (hg : PinR L s L' err) (h : err ≠ 0) : L' = L := by
  rcases hg with ⟨i, t, x, _, hL, _, rfl⟩ | ⟨_, rfl, _⟩
  · exact absurd rfl h
  · rfl
theorem unpin_still (hg : UnpinR L s L' err) (h : err ≠ 0) : L' = L := by
  rcases hg with ⟨i, t, x, _, hL, _, _, rfl⟩ | ⟨_, rfl, _⟩
  · exact absurd rfl h
  · rfl

/-- What is told behind it. -/
def Told (room : Nat) (at_ : Int → Int) (was : List Int) (s : Int) (now : List Int) : Prop :=
  (s ∈ was ∧ now = s :: was.filter (fun a => decide (a ≠ s))) ∨
  (s ∉ was ∧ was.length < room ∧ now = s :: was) ∨
  (s ∉ was ∧ was.length = room ∧ ∃ (X Y : List Int) (e : Int), was = X ++ e :: Y ∧ at_ e = 0 ∧ (∀ y ∈ Y, 0 < at_ y) ∧ now = s :: (X ++ Y))
theorem keysI_app (A B : List (Nat × Sl)) : keysI (A ++ B) = keysI A ++ keysI B := by simp [keysI]
theorem touch_told (h : PinsAre at_ L) (hc : Coh n P room V N L k) (ht : TouchR room L s L') : Told room at_ (keysI L).reverse s (keysI L').reverse := by
  obtain ⟨t, rfl, ⟨i, x, y, hL, rfl, hy⟩ | ⟨hno, L1, k0, k1, y, hk, rfl, hy⟩⟩ := ht
  · have hm := List.mem_of_getElem? hL
    refine .inl ⟨List.mem_reverse.2 (List.mem_map.2 ⟨_, hm, rfl⟩), ?_⟩
    rw [keysI_app, List.reverse_append]
    show (t : Int) :: (keysI (L.eraseIdx i)).reverse = _
    rw [List.filter_reverse]
    congr 2
    have hnd := hc.nod
    obtain ⟨hi, he⟩ := List.getElem?_eq_some_iff.1 hL
    have hsplit : L = L.take i ++ (t, x) :: L.drop (i + 1) := by rw [← he]; simp
    have her : L.eraseIdx i = L.take i ++ L.drop (i + 1) := List.eraseIdx_eq_take_drop_succ L i
    rw [her]
    generalize L.take i = A at hsplit
    generalize L.drop (i + 1) = B at hsplit
    rw [hsplit] at hnd ⊢
    rw [List.map_append, List.map_cons, List.nodup_append] at hnd
    obtain ⟨h1, h2, h3⟩ := hnd
    rw [keysI_app, keysI_app, List.filter_append]
    have fa : (keysI A).filter (fun a => decide (a ≠ (t : Int))) = keysI A := List.filter_eq_self.2 fun a ha => by
      obtain ⟨p, hp, rfl⟩ := List.mem_map.1 ha
      have := h3 p.1 (List.mem_map.2 ⟨p, hp, rfl⟩) t (by simp)
      simp; omega
    have fb : (keysI ((t, x) :: B)).filter (fun a => decide (a ≠ (t : Int))) = keysI B := by
      have e : keysI ((t, x) :: B) = (t : Int) :: keysI B := rfl
      rw [e, List.filter_cons_of_neg (by simp)]
      refine List.filter_eq_self.2 fun a ha => ?_
      obtain ⟨p, hp, rfl⟩ := List.mem_map.1 ha
      have := (List.nodup_cons.1 h2).1
      have hne : p.1 ≠ t := fun e => this (List.mem_map.2 ⟨p, hp, e⟩)
      simp; omega
    rw [fa, fb]
  · have hni : (t : Int) ∉ (keysI L).reverse := fun hm => by
      obtain ⟨p, hp, e⟩ := List.mem_map.1 (List.mem_reverse.1 hm)
      exact hno p hp (by omega)
    have hlen : (keysI L).reverse.length = L.length := by simp [keysI]
    have hroom := hc.room
    rcases roomK_cases hk with ⟨hlt, rfl, _⟩ | ⟨hge, i, q, x, hfi, hL, hp, rfl, _⟩
    · refine .inr (.inl ⟨hni, by omega, ?_⟩)
      rw [keysI_app, List.reverse_append]
      rfl
    · refine .inr (.inr ⟨hni, by omega, ?_⟩)
      obtain ⟨hil, hpz, hbefore⟩ := List.findIdx?_eq_some_iff_getElem.1 hfi
      obtain ⟨_, he⟩ := List.getElem?_eq_some_iff.1 hL
      have hsplit : L = L.take i ++ (q, x) :: L.drop (i + 1) := by rw [← he]; simp
      refine ⟨(keysI (L.drop (i + 1))).reverse, (keysI (L.take i)).reverse, (q : Int), ?_, ?_, fun y hy => ?_, ?_⟩
      · have e : keysI L = keysI (L.take i) ++ (q : Int) :: keysI (L.drop (i + 1)) := by
          conv => lhs; rw [hsplit, keysI_app]
          rfl
        rw [e]
        simp
      · rw [h.1 q x (List.mem_of_getElem? hL), hp]
        rfl
      · obtain ⟨p, hp', rfl⟩ := List.mem_map.1 (List.mem_reverse.1 hy)
        obtain ⟨j, hj, rfl⟩ := List.getElem_of_mem hp'
        have hji : j < i := by
          have := hj
          rw [List.length_take] at this
          omega
        rw [List.getElem_take]
        have hb := hbefore j hji
        have h2 : at_ (L[j].1 : Int) = (L[j].2.pins : Int) := h.1 _ _ (List.getElem_mem (Nat.lt_trans hji hil))
        rw [h2]
        simp only [beq_iff_eq] at hb
        omega
      · rw [keysI_app, List.reverse_append, List.eraseIdx_eq_take_drop_succ, keysI_app]
        simp [keysI]
end
end Go.Proofs.Ytnmfpgeojggjbaa
