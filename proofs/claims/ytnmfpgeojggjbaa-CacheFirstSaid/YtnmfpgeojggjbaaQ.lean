/-
  That a cache hands out what was put last: no program occurs here.
-/
import Derived.Test.YtnmfpgeojggjbaaP
namespace Go.Proofs.Ytnmfpgeojggjbaa
open Go.RowKit

/-- Sector s was last given the byte V s. -/
structure Coh (n P room : Nat) (V : Nat → Nat) (N : Nat) (L : List (Nat × Sl)) (k : Dk Nat) : Prop where
  fine : Fine N L k
  len : k.safe.length = n
  nod : (L.map (·.1)).Nodup
  val : ∀ s x, (s, x) ∈ L → x.c = V s
  now : ∀ s, s < n → (∀ x, (s, x) ∈ L → x.dirty = false) → k.now[s]? = some (V s)
  pins : ∀ p ∈ L, p.2.pins ≤ P
  room : L.length ≤ room

section
variable {n P room N : Nat} {V : Nat → Nat} {L L' L1 : List (Nat × Sl)} {k k' k1 : Dk Nat}

theorem Coh.up (h : Coh n P room V N L k) {M Q : Nat} (hM : N ≤ M) (hQ : P ≤ Q) : Coh n Q room V M L k :=
  ⟨h.fine.up hM, h.len, h.nod, h.val, h.now, fun p hp => Nat.le_trans (h.pins p hp) hQ, h.room⟩
theorem Coh.uniq (h : Coh n P room V N L k) {s : Nat} {x y : Sl} (hx : (s, x) ∈ L) (hy : (s, y) ∈ L) : x = y := by
  obtain ⟨i, hi, hxi⟩ := List.getElem_of_mem hx
  obtain ⟨j, hj, hyj⟩ := List.getElem_of_mem hy
  obtain rfl := nodup_inj h.nod (i := i) (j := j) (by simpa using hi) (by simpa using hj) (by simp [hxi, hyj])
  rw [hxi] at hyj
  injection hyj
theorem now_len (k : Dk Nat) : k.now.length = k.safe.length := length_puts _ _
theorem cleanK_now (h1 : k.dead = false) (h2 : k.cut = false) (s : Nat) (x : Sl) : (cleanK k s x).now = if x.dirty then k.now.set s x.c else k.now := by
  unfold cleanK
  split
  · exact wrote_now h1 h2 s x.c
  · rfl
theorem mem_erase_key (hn : (L.map (·.1)).Nodup) {i s : Nat} {x : Sl} (h : L[i]? = some (s, x)) {p : Nat × Sl} : p ∈ L.eraseIdx i ↔ p ∈ L ∧ p.1 ≠ s := by
  obtain ⟨hi, he⟩ := List.getElem?_eq_some_iff.1 h
  rw [List.mem_eraseIdx_iff_getElem?]
  constructor
  · rintro ⟨j, hj, hp⟩
    obtain ⟨hjl, rfl⟩ := List.getElem?_eq_some_iff.1 hp
    refine ⟨List.getElem_mem hjl, fun e => hj ?_⟩
    exact nodup_inj hn (by simpa using hjl) (by simpa using hi) (by simp [he, e])
  · rintro ⟨hp, hne⟩
    obtain ⟨j, hjl, rfl⟩ := List.getElem_of_mem hp
    exact ⟨j, fun e => hne (by subst e; rw [he]), List.getElem?_eq_getElem hjl⟩

/-- One goes, or there is room. -/
theorem roomK_cases (hk : roomK room L k = some (L1, k1)) : (L.length < room ∧ L1 = L ∧ k1 = k) ∨ (room ≤ L.length ∧ ∃ i s x, L.findIdx? (fun p => p.2.pins == 0) = some i ∧ L[i]? = some (s, x) ∧ x.pins = 0 ∧ L1 = L.eraseIdx i ∧ k1 = cleanK k s x) := by
  unfold roomK at hk
  split at hk
  · rename_i h
    cases hk
    exact .inl ⟨h, rfl, rfl⟩
  · rename_i h
    split at hk
    · cases hk
    · rename_i i hi
      obtain ⟨hil, hp, _⟩ := List.findIdx?_eq_some_iff_getElem.1 hi
      rw [List.getElem?_eq_getElem hil] at hk
      cases hk
      exact .inr ⟨by omega, i, L[i].1, L[i].2, hi, List.getElem?_eq_getElem hil, by simpa using hp, rfl, rfl⟩
theorem Coh.clean (h : Coh n P room V N L k) {i s : Nat} {x : Sl} (hL : L[i]? = some (s, x)) : ∀ t, t < n → (∀ y, (t, y) ∈ L → y.dirty = false ∨ t = s) → (cleanK k s x).now[t]? = some (V t) := by
  intro t ht hd
  have hm := List.mem_of_getElem? hL
  rw [cleanK_now h.fine.on h.fine.nocut]
  by_cases hts : t = s
  · subst hts
    split
    · rw [List.getElem?_set_self (by rw [now_len, h.len]; exact ht), h.val _ _ hm]
    · rename_i hx
      exact h.now t ht fun y hy => by rw [h.uniq hy hm]; simpa using hx
  · have hn := h.now t ht fun y hy => (hd y hy).resolve_right hts
    split
    · rw [List.getElem?_set_ne (Ne.symm hts)]; exact hn
    · exact hn
theorem Coh.roomed (h : Coh n P room V N L k) (hk : roomK room L k = some (L1, k1)) (hr : 1 ≤ room) : Coh n P room V (N + 1) L1 k1 ∧ L1.length < room := by
  have hF := roomK_fine h.fine hk
  have hl := roomK_len hk
  have hs := roomK_sub hk
  rcases roomK_cases hk with ⟨h1, rfl, rfl⟩ | ⟨h1, i, s, x, hi, hL, hp, rfl, rfl⟩
  · exact ⟨h.up (Nat.le_succ _) (Nat.le_refl _), h1⟩
  · have hil := (List.getElem?_eq_some_iff.1 hL).1
    have hlen : (L.eraseIdx i).length = L.length - 1 := List.length_eraseIdx_of_lt hil
    have hr2 := h.room
    refine ⟨⟨hF, hl.trans h.len, (hs.map _).nodup h.nod, fun s x hm => h.val s x (hs.subset hm), fun t ht hd => ?_, fun p hp => h.pins p (hs.subset hp), by omega⟩, by omega⟩
    refine h.clean hL t ht fun y hy => ?_
    by_cases hts : t = s
    · exact .inr hts
    · exact .inl (hd y ((mem_erase_key h.nod hL).2 ⟨hy, hts⟩))
theorem Coh.perm (h : Coh n P room V N L k) (hp : L'.Perm L) : Coh n P room V N L' k :=
  ⟨⟨fun p hm => h.fine.key p (hp.mem_iff.1 hm), fun p hm => h.fine.tag p (hp.mem_iff.1 hm), h.fine.n, h.fine.on, h.fine.nocut, h.fine.un, by rw [hp.length_eq]; exact h.fine.len⟩, h.len, (hp.map _).nodup_iff.2 h.nod, fun s x hm => h.val s x (hp.mem_iff.1 hm), fun s hs hd => h.now s hs fun x hx => hd x (hp.mem_iff.2 hx), fun p hm => h.pins p (hp.mem_iff.1 hm), by rw [hp.length_eq]; exact h.room⟩
/-- A slot more. -/
theorem Coh.more (h : Coh n P room V N L k) {t c : Nat} {x : Sl} (hno : ∀ p ∈ L, p.1 ≠ t) (ht : t < n) (hx : x.c = c) (hp : x.pins = 0) (htag : x.dirty = true → x.tag = x.c) (hd : x.dirty = false → c = V t) (hr : L.length < room) (hl : L.length < 10000) :
    Coh n P room (fun s => if s = t then c else V s) N (L ++ [(t, x)]) k := by
  refine ⟨⟨fun p hm => ?_, fun p hm => ?_, h.fine.n, h.fine.on, h.fine.nocut, h.fine.un, by simp; omega⟩, h.len, ?_, fun s y hm => ?_, fun s hs hdd => ?_, fun p hm => ?_, by simp; omega⟩
  · rcases List.mem_append.1 hm with hm | hm
    · exact h.fine.key p hm
    · obtain rfl : p = (t, x) := by simpa using hm
      rw [h.len]; exact ht
  · rcases List.mem_append.1 hm with hm | hm
    · exact h.fine.tag p hm
    · obtain rfl : p = (t, x) := by simpa using hm
      exact htag
  · rw [List.map_append, List.nodup_append]
    refine ⟨h.nod, by simp, fun a ha b hb e => ?_⟩
    obtain ⟨p, hp, rfl⟩ := List.mem_map.1 ha
    obtain rfl : b = t := by simpa using hb
    exact hno p hp e
  · rcases List.mem_append.1 hm with hm | hm
    · have : s ≠ t := hno _ hm
      rw [if_neg this]; exact h.val s y hm
    · simp only [List.mem_singleton, Prod.mk.injEq] at hm
      obtain ⟨rfl, rfl⟩ := hm
      rw [if_pos rfl]; exact hx
  · by_cases hst : s = t
    · subst hst
      rw [if_pos rfl, hd (hdd x (by simp))]
      exact h.now s hs fun y hy => absurd rfl (hno _ hy)
    · rw [if_neg hst]
      exact h.now s hs fun y hy => hdd y (by simp [hy])
  · rcases List.mem_append.1 hm with hm | hm
    · exact h.pins p hm
    · obtain rfl : p = (t, x) := by simpa using hm
      rw [hp]; exact Nat.zero_le _
theorem upd_self (V : Nat → Nat) (t : Nat) : (fun s => if s = t then V t else V s) = V := by
  funext s
  split
  · rename_i h; rw [h]
  · rfl
/-- A slot's contents are others. -/
theorem Coh.reslot (h : Coh n P room V N L k) {i t c : Nat} {x y : Sl} (hL : L[i]? = some (t, x)) (hc : y.c = c) (htag : y.dirty = true → y.tag = y.c) (hd : y.dirty = false → k.now[t]? = some c) (Q : Nat) (hQ : P ≤ Q) (hp : y.pins ≤ Q) :
    Coh n Q room (fun s => if s = t then c else V s) N (L.set i (t, y)) k := by
  have hm := List.mem_of_getElem? hL
  have hil := (List.getElem?_eq_some_iff.1 hL).1
  have hother : ∀ p ∈ L.set i (t, y), p = (t, y) ∨ (p ∈ L ∧ p.1 ≠ t) := fun p hp => by
    obtain ⟨j, hj, rfl⟩ := List.getElem_of_mem hp
    rw [List.getElem_set]
    split
    · exact .inl rfl
    · rename_i hne
      have hj' : j < L.length := by simpa using hj
      refine .inr ⟨List.getElem_mem hj', fun e => hne ?_⟩
      obtain ⟨hi2, he⟩ := List.getElem?_eq_some_iff.1 hL
      exact nodup_inj h.nod (by simpa using hil) (by simpa using hj') (by simp [he, e])
  have hkeys : (L.set i (t, y)).map (·.1) = L.map (·.1) := by
    rw [List.map_set]
    exact set_self (by rw [List.getElem?_map, hL]; rfl)
  have hin : (t, y) ∈ L.set i (t, y) := List.mem_iff_getElem?.2 ⟨i, List.getElem?_set_self hil⟩
  have hback : ∀ p ∈ L, p.1 ≠ t → p ∈ L.set i (t, y) := fun p hp hne => by
    obtain ⟨j, hj, rfl⟩ := List.getElem_of_mem hp
    refine List.mem_iff_getElem?.2 ⟨j, ?_⟩
    rw [List.getElem?_set_ne (fun e => hne (by subst e; obtain ⟨_, he⟩ := List.getElem?_eq_some_iff.1 hL; rw [he]))]
    exact List.getElem?_eq_getElem hj
  refine ⟨⟨fun p hp => ?_, fun p hp => ?_, h.fine.n, h.fine.on, h.fine.nocut, h.fine.un, by rw [List.length_set]; exact h.fine.len⟩, h.len, by rw [hkeys]; exact h.nod, fun s z hz => ?_, fun s hs hdd => ?_, fun p hp' => ?_, by rw [List.length_set]; exact h.room⟩
  · rcases hother p hp with rfl | ⟨h1, _⟩
    · exact h.fine.key (t, x) hm
    · exact h.fine.key p h1
  · rcases hother p hp with rfl | ⟨h1, _⟩
    · exact htag
    · exact h.fine.tag p h1
  · rcases hother _ hz with h1 | ⟨h1, h2⟩
    · simp only [Prod.mk.injEq] at h1
      obtain ⟨rfl, rfl⟩ := h1
      rw [if_pos rfl]; exact hc
    · rw [if_neg h2]; exact h.val s z h1
  · by_cases hst : s = t
    · subst hst
      rw [if_pos rfl]
      exact hd (hdd y hin)
    · rw [if_neg hst]
      exact h.now s hs fun z hz => hdd z (hback _ hz hst)
  · rcases hother p hp' with rfl | ⟨h1, _⟩
    · exact hp
    · exact Nat.le_trans (h.pins p h1) hQ

theorem coh_get (h : Coh n P room V N L k) (hr : 1 ≤ room) (hN : room ≤ 9000) {s err : Int} (hg : GetR room L k s L' k' err) : Coh n P room V (N + 1) L' k' ∧ (err = 0 ∨ err = 1 ∨ err = 5) := by
  rcases hg with ⟨i, t, x, rfl, hL, rfl, rfl, rfl⟩ | ⟨t, c, L1, rfl, hno, ht, hk, hc, rfl, rfl⟩ | ⟨t, rfl, hno, ht, hk, rfl, rfl, rfl⟩ | ⟨hh, rfl, rfl, rfl⟩
  · exact ⟨(h.perm (erase_perm hL)).up (Nat.le_succ _) (Nat.le_refl _), .inl rfl⟩
  · obtain ⟨h1, h2⟩ := h.roomed hk hr
    have hno1 : ∀ p ∈ L1, p.1 ≠ t := fun p hp => hno p ((roomK_sub hk).subset hp)
    have htn : t < n := by rw [← h.len]; exact ht
    have hcv : c = V t := by
      have := h1.now t htn fun y hy => absurd rfl (hno1 _ hy)
      rw [hc] at this
      injection this
    have h3 := h1.more hno1 htn (c := c) (x := ⟨c, 0, false, 0⟩) rfl rfl (by simp) (fun _ => hcv) h2 (by omega)
    rw [hcv, upd_self] at h3
    rw [hcv]
    exact ⟨h3, .inl rfl⟩
  · exact ⟨h.up (Nat.le_succ _) (Nat.le_refl _), .inr (.inr rfl)⟩
  · exact ⟨h.up (Nat.le_succ _) (Nat.le_refl _), .inr (.inl rfl)⟩
theorem coh_put (h : Coh n P room V N L k) (hr : 1 ≤ room) (hN : room ≤ 9000) {s err : Int} {c : Nat} (hg : PutR room L k s c L' k' err) :
    (err = 0 ∧ ∃ t : Nat, s = (t : Int) ∧ t < n ∧ Coh n P room (fun s => if s = t then c else V s) (N + 1) L' k') ∨ ((err = 1 ∨ err = 5) ∧ Coh n P room V (N + 1) L' k') := by
  rcases hg with ⟨i, t, x, rfl, hL, rfl, rfl, rfl⟩ | ⟨t, L1, rfl, hno, ht, hk, rfl, rfl⟩ | ⟨t, rfl, hno, ht, hk, rfl, rfl, rfl⟩ | ⟨hh, rfl, rfl, rfl⟩
  · have hm := List.mem_of_getElem? hL
    have hil := (List.getElem?_eq_some_iff.1 hL).1
    have h1 := h.reslot hL (c := c) (y := { x with c := c, tag := c, dirty := true }) rfl (fun _ => rfl) (by simp) P (Nat.le_refl _) (h.pins _ hm)
    have h2 := h1.perm (erase_perm (i := i) (a := (t, { x with c := c, tag := c, dirty := true })) (List.getElem?_set_self hil))
    rw [List.eraseIdx_set_eq] at h2
    exact .inl ⟨rfl, t, rfl, by rw [← h.len]; exact h.fine.key _ hm, h2.up (Nat.le_succ _) (Nat.le_refl _)⟩
  · obtain ⟨h1, h2⟩ := h.roomed hk hr
    have hno1 : ∀ p ∈ L1, p.1 ≠ t := fun p hp => hno p ((roomK_sub hk).subset hp)
    have htn : t < n := by rw [← h.len]; exact ht
    exact .inl ⟨rfl, t, rfl, htn, h1.more hno1 htn (c := c) (x := ⟨c, c, true, 0⟩) rfl rfl (fun _ => rfl) (by simp) h2 (by omega)⟩
  · exact .inr ⟨.inr rfl, h.up (Nat.le_succ _) (Nat.le_refl _)⟩
  · exact .inr ⟨.inl rfl, h.up (Nat.le_succ _) (Nat.le_refl _)⟩
theorem Coh.pinned (h : Coh n P room V N L k) {i t : Nat} {x : Sl} (hL : L[i]? = some (t, x)) (m : Nat) (hm : m ≤ P + 1) : Coh n (P + 1) room V N (L.set i (t, { x with pins := m })) k := by
  have hmem := List.mem_of_getElem? hL
  have hc := h.val t x hmem
  have h1 := h.reslot hL (c := V t) (y := { x with pins := m }) hc (h.fine.tag _ hmem) (fun hd => h.now t (by rw [← h.len]; exact h.fine.key _ hmem) fun y hy => by rw [h.uniq hy hmem]; exact hd) (P + 1) (Nat.le_succ _) hm
  rw [upd_self] at h1
  exact h1
theorem coh_pin (h : Coh n P room V N L k) {s err : Int} (hg : PinR L s L' err) : Coh n (P + 1) room V N L' k := by
  rcases hg with ⟨i, t, x, rfl, hL, rfl, rfl⟩ | ⟨_, rfl, rfl⟩
  · exact h.pinned hL _ (Nat.succ_le_succ (h.pins _ (List.mem_of_getElem? hL)))
  · exact h.up (Nat.le_refl _) (Nat.le_succ _)
theorem coh_unpin (h : Coh n P room V N L k) {s err : Int} (hg : UnpinR L s L' err) : Coh n (P + 1) room V N L' k := by
  rcases hg with ⟨i, t, x, rfl, hL, _, rfl, rfl⟩ | ⟨_, rfl, rfl⟩
  · refine h.pinned hL _ ?_
    have := h.pins _ (List.mem_of_getElem? hL)
    simp only at this
    omega
  · exact h.up (Nat.le_refl _) (Nat.le_succ _)

/-- A flush, sector by sector. -/
theorem Coh.cleanAt (h : Coh n P room V N L k) {s : Int} (hs : s ∈ keysI L) : Coh n P room V (N + 1) (cleanAt (L, k) s).1 (cleanAt (L, k) s).2 ∧ keysI (cleanAt (L, k) s).1 = keysI L ∧
    (∀ p ∈ (cleanAt (L, k) s).1, p.2.dirty = true → p.2.pins = 0 → p ∈ L ∧ (p.1 : Int) ≠ s) := by
  obtain ⟨p, hp, rfl⟩ := List.mem_map.1 hs
  obtain ⟨i, hi, he⟩ := List.getElem_of_mem hp
  obtain ⟨t, x⟩ := p
  have hL : L[i]? = some (t, x) := by rw [List.getElem?_eq_getElem hi, he]
  by_cases hz : x.pins = 0
  · rw [cleanAt_free h.nod hL hz]
    have hF := cleanK_fine h.fine t x
    have hkk := h.clean hL
    have hbase : Coh n P room V (N + 1) (L.set i (t, cleanS x)) (cleanK k t x) := by
      have hil := hi
      have hother : ∀ p ∈ L.set i (t, cleanS x), p = (t, cleanS x) ∨ (p ∈ L ∧ p.1 ≠ t) := fun p hp => by
        obtain ⟨j, hj, rfl⟩ := List.getElem_of_mem hp
        rw [List.getElem_set]
        split
        · exact .inl rfl
        · rename_i hne
          have hj' : j < L.length := by simpa using hj
          exact .inr ⟨List.getElem_mem hj', fun e => hne (nodup_inj h.nod (by simpa using hil) (by simpa using hj') (by simp [he, e]))⟩
      refine ⟨⟨fun p hp' => ?_, fun p hp' hd => ?_, hF.n, hF.on, hF.nocut, hF.un, by rw [List.length_set]; exact hF.len⟩, by rw [cleanK_len]; exact h.len, ?_, fun s z hz' => ?_, fun s hs' hdd => ?_, fun p hp' => ?_, by rw [List.length_set]; exact h.room⟩
      · rcases hother p hp' with rfl | ⟨h2, _⟩
        · exact hF.key (t, x) hp
        · exact hF.key p h2
      · rcases hother p hp' with rfl | ⟨h2, _⟩
        · simp [cleanS] at hd
        · exact hF.tag p h2 hd
      · have : (L.set i (t, cleanS x)).map (·.1) = L.map (·.1) := by
          rw [List.map_set]
          exact set_self (by rw [List.getElem?_map, hL]; rfl)
        rw [this]; exact h.nod
      · rcases hother _ hz' with h2 | ⟨h2, _⟩
        · simp only [Prod.mk.injEq] at h2
          obtain ⟨rfl, rfl⟩ := h2
          exact h.val _ x hp
        · exact h.val s z h2
      · refine hkk s hs' fun z hz' => ?_
        by_cases hst : s = t
        · exact .inr hst
        · refine .inl (hdd z ?_)
          obtain ⟨j, hj, hjz⟩ := List.getElem_of_mem hz'
          refine List.mem_iff_getElem?.2 ⟨j, ?_⟩
          rw [List.getElem?_set_ne (fun e => hst (by subst e; rw [he] at hjz; injection hjz with h2; exact h2.symm)), List.getElem?_eq_getElem hj, hjz]
      · rcases hother p hp' with rfl | ⟨h2, _⟩
        · exact h.pins (t, x) hp
        · exact h.pins p h2
    refine ⟨hbase, set_keys hL, fun p hp' hd _ => ?_⟩
    obtain ⟨j, hj, rfl⟩ := List.getElem_of_mem hp'
    rw [List.getElem_set] at hd ⊢
    split at hd
    · simp [cleanS] at hd
    · rename_i hne
      rw [if_neg hne]
      have hj' : j < L.length := by simpa using hj
      exact ⟨List.getElem_mem hj', fun e => hne (nodup_inj h.nod (by simpa using hi) (by simpa using hj') (by simp [he]; simp only at e; omega))⟩
  · rw [cleanAt_pinned h.nod hL hz]
    refine ⟨h.up (Nat.le_succ _) (Nat.le_refl _), rfl, fun p hp' hd hz' => ⟨hp', fun e => hz ?_⟩⟩
    obtain ⟨s', y⟩ := p
    simp only at e hz'
    obtain rfl : s' = t := by omega
    rw [h.uniq hp hp']
    exact hz'
theorem coh_fold : ∀ (l : List Int) {N : Nat} {L : List (Nat × Sl)} {k : Dk Nat}, Coh n P room V N L k → (∀ s ∈ l, s ∈ keysI L) → Coh n P room V (N + l.length) (l.foldl cleanAt (L, k)).1 (l.foldl cleanAt (L, k)).2 ∧ keysI (l.foldl cleanAt (L, k)).1 = keysI L ∧
    ∀ p ∈ (l.foldl cleanAt (L, k)).1, p.2.dirty = true → p.2.pins = 0 → p ∈ L ∧ (p.1 : Int) ∉ l
  | [], N, L, k, h, _ => ⟨h, rfl, fun p hp _ _ => ⟨hp, by simp⟩⟩
  | s :: l, N, L, k, h, hl => by
    obtain ⟨h1, h2, h3⟩ := h.cleanAt (hl s (by simp))
    obtain ⟨h4, h5, h6⟩ := coh_fold l h1 fun t ht => by rw [h2]; exact hl t (by simp [ht])
    refine ⟨?_, h5.trans h2, fun p hp hd hz => ?_⟩
    · have e : N + (s :: l).length = N + 1 + l.length := by simp; omega
      rw [e]
      exact h4
    · obtain ⟨a1, a2⟩ := h6 p hp hd hz
      obtain ⟨b1, b2⟩ := h3 p a1 hd hz
      exact ⟨b1, by simp [a2, b2]⟩
theorem flush_now (h1 : k.dead = false) (h2 : k.cut = false) : k.flush = { k with safe := k.now, un := [], done := wrap64 (k.done + 1) } := by
  unfold Dk.flush
  have : k.off = false := by simp [Dk.off, h1, h2]
  rw [this, if_neg (by decide), dk_op_on h1 h2]
theorem coh_flush (h : Coh n P room V N L k) {l : List Int} (hf : FlushR L k l L' k') : Coh n P room V 0 L' k' ∧ keysI L' = keysI L ∧ (∀ p ∈ L', p.2.pins = 0 → p.2.dirty = false) ∧ k'.un = [] ∧ (l = [] → k'.done = wrap64 (k.done + 1)) := by
  obtain ⟨hp, rfl, rfl⟩ := hf
  have hsub : ∀ s ∈ l, s ∈ keysI L := fun s hs => by
    have := hp.mem_iff.1 hs
    unfold keysI at this ⊢
    exact ((List.filter_sublist).map _).subset this
  obtain ⟨h1, h2, h3⟩ := coh_fold l h hsub
  have e := flush_now h1.fine.on h1.fine.nocut
  have hnow : ((l.foldl cleanAt (L, k)).2.flush).now = (l.foldl cleanAt (L, k)).2.now := by rw [e]; rfl
  have hlen : ((l.foldl cleanAt (L, k)).2.flush).safe.length = n := by rw [e]; show (l.foldl cleanAt (L, k)).2.now.length = n; rw [now_len, h1.len]
  refine ⟨⟨⟨fun p hp' => by rw [hlen, ← h1.len]; exact h1.fine.key p hp', h1.fine.tag, by rw [hlen, ← h1.len]; exact h1.fine.n, by rw [e]; exact h1.fine.on, by rw [e]; exact h1.fine.nocut, by rw [e]; exact Nat.zero_le _, h1.fine.len⟩, hlen, h1.nod, h1.val, fun s hs hd => by rw [hnow]; exact h1.now s hs hd, h1.pins, h1.room⟩, h2, fun p hp' hz => ?_, by rw [e], fun hl => ?_⟩
  · cases hd : p.2.dirty
    · rfl
    · obtain ⟨a1, a2⟩ := h3 p hp' hd hz
      refine absurd (hp.mem_iff.2 ?_) a2
      exact List.mem_map.2 ⟨p, List.mem_filter.2 ⟨a1, hd⟩, rfl⟩
  · subst hl
    rw [e]
    rfl
end
end Go.Proofs.Ytnmfpgeojggjbaa
