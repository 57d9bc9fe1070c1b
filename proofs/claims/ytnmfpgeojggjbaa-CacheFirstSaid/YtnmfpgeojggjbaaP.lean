/-
  What a call makes of a cache, on paper; that a cache hands out what was put last.
-/
import Derived.Test.YtnmfpgeojggjbaaH
namespace Go.Proofs.Ytnmfpgeojggjbaa
open Go.RowKit

/-- One step: only those blocks may have turned, and what is new. -/
def Step (S S' : Nat → Prop) (w w' : World) : Prop := Kept S w w' ∧ ∀ t, S' t → S t ∨ w.heap.size ≤ t
theorem Step.below {B : Nat} {S S' : Nat → Prop} {w w' : World} (h : Step S S' w w') (hS : ∀ i, S i → B ≤ i) (hB : B ≤ w.heap.size) : Below B w w' := h.1.below hS hB
theorem Step.bk {S S' : Nat → Prop} {w w' : World} (h : Step S S' w w') {g : Nat} {e : TypeId} {xs : List Value} (hg : Bk w g e xs) (hS : ¬ S g) : Bk w' g e xs := (h.1.block g hg.lt hS).trans hg
theorem Step.not {S S' : Nat → Prop} {w w' : World} (h : Step S S' w w') {g : Nat} (hg : g < w.heap.size) (hS : ¬ S g) : ¬ S' g := fun hh => by
  rcases h.2 g hh with h1 | h1
  · exact hS h1
  · omega
theorem Step.more {S S' : Nat → Prop} {w w1 w' : World} (h : Step S S' w w1) (hb : Below w1.heap.size w1 w') : Step S S' w w' := ⟨h.1.trans (Kept.of_below hb) fun _ hi => .inl hi, h.2⟩
theorem Step.refl (S : Nat → Prop) (w : World) : Step S S w w := ⟨Kept.refl _ _, fun _ ht => .inl ht⟩

/-- What Get makes of a cache and its disk. -/
def GetR (room : Nat) (L : List (Nat × Sl)) (k : Dk Nat) (s : Int) (L' : List (Nat × Sl)) (k' : Dk Nat) (err : Int) : Prop :=
  (∃ (i t : Nat) (x : Sl), s = (t : Int) ∧ L[i]? = some (t, x) ∧ L' = L.eraseIdx i ++ [(t, x)] ∧ k' = k ∧ err = 0) ∨
  (∃ (t c : Nat) (L1 : List (Nat × Sl)), s = (t : Int) ∧ (∀ p ∈ L, p.1 ≠ t) ∧ t < k.safe.length ∧ roomK room L k = some (L1, k') ∧ k'.now[t]? = some c ∧ L' = L1 ++ [(t, ⟨c, 0, false, 0⟩)] ∧ err = 0) ∨
  (∃ t : Nat, s = (t : Int) ∧ (∀ p ∈ L, p.1 ≠ t) ∧ t < k.safe.length ∧ roomK room L k = none ∧ L' = L ∧ k' = k ∧ err = 5) ∨
  (k.has s = false ∧ L' = L ∧ k' = k ∧ err = 1)
/-- What Put makes of them. -/
def PutR (room : Nat) (L : List (Nat × Sl)) (k : Dk Nat) (s : Int) (c : Nat) (L' : List (Nat × Sl)) (k' : Dk Nat) (err : Int) : Prop :=
  (∃ (i t : Nat) (x : Sl), s = (t : Int) ∧ L[i]? = some (t, x) ∧ L' = L.eraseIdx i ++ [(t, { x with c := c, tag := c, dirty := true })] ∧ k' = k ∧ err = 0) ∨
  (∃ (t : Nat) (L1 : List (Nat × Sl)), s = (t : Int) ∧ (∀ p ∈ L, p.1 ≠ t) ∧ t < k.safe.length ∧ roomK room L k = some (L1, k') ∧ L' = L1 ++ [(t, ⟨c, c, true, 0⟩)] ∧ err = 0) ∨
  (∃ t : Nat, s = (t : Int) ∧ (∀ p ∈ L, p.1 ≠ t) ∧ t < k.safe.length ∧ roomK room L k = none ∧ L' = L ∧ k' = k ∧ err = 5) ∨
  (k.has s = false ∧ L' = L ∧ k' = k ∧ err = 1)
/-- What Pin and Unpin make of them. -/
def PinR (L : List (Nat × Sl)) (s : Int) (L' : List (Nat × Sl)) (err : Int) : Prop :=
  (∃ (i t : Nat) (x : Sl), s = (t : Int) ∧ L[i]? = some (t, x) ∧ L' = L.set i (t, { x with pins := x.pins + 1 }) ∧ err = 0) ∨ ((∀ p ∈ L, (p.1 : Int) ≠ s) ∧ L' = L ∧ err = 2)
def UnpinR (L : List (Nat × Sl)) (s : Int) (L' : List (Nat × Sl)) (err : Int) : Prop :=
  (∃ (i t : Nat) (x : Sl), s = (t : Int) ∧ L[i]? = some (t, x) ∧ x.pins ≠ 0 ∧ L' = L.set i (t, { x with pins := x.pins - 1 }) ∧ err = 0) ∨ (((∀ p ∈ L, (p.1 : Int) ≠ s) ∨ ∃ (i t : Nat) (x : Sl), s = (t : Int) ∧ L[i]? = some (t, x) ∧ x.pins = 0) ∧ L' = L ∧ err = 2)

theorem has_nat {k : Dk Nat} {s : Int} (h : k.has s = true) : ∃ t : Nat, s = (t : Int) ∧ t < k.safe.length := by
  simp only [Dk.has, Bool.and_eq_true, decide_eq_true_eq] at h
  exact ⟨s.toNat, by omega, by omega⟩
theorem entry_or (L : List (Nat × Sl)) (t : Nat) : (∃ (i : Nat) (x : Sl), L[i]? = some (t, x)) ∨ ∀ p ∈ L, p.1 ≠ t := by
  by_cases h : ∃ p ∈ L, p.1 = t
  · obtain ⟨p, hp, rfl⟩ := h
    obtain ⟨i, hi, rfl⟩ := List.getElem_of_mem hp
    exact .inl ⟨i, _, List.getElem?_eq_getElem hi⟩
  · exact .inr fun p hp e => h ⟨p, hp, e⟩

section
variable {N n B b bd room : Nat} {w w' : World} {L L1 L' : List (Nat × Sl)} {k k1 k' : Dk Nat} {S : Nat → Prop}

theorem Ours.step {O' : List Int} (h : Ours B w b bd room L k S) (ht : BTurned S w w' b bd room O' L' k') (hB : B ≤ w.heap.size) (hO : O' = keysI L') : ∃ S', Ours B w' b bd room L' k' S' ∧ Step S S' w w' := by
  subst hO
  obtain ⟨hK, S', hD, hS⟩ := ht
  refine ⟨S', ⟨hD, fun i hi => ?_⟩, hK, hS⟩
  rcases hS i hi with hs | hs
  · exact h.2 i hs
  · omega

theorem get_all (h : Ours B w b bd room L k S) (hB : B ≤ w.heap.size) (F : Fine N L k) (hN : N ≤ 1000000000) (s : Int) :
    Calls Try.prog 12 #[.pointer (some ⟨b, 0, none⟩), .int .i64 s] w fun e w' => ∃ v err L' k' S', e = .returned (.tuple #[v, .int .i64 err]) ∧ GetR room L k s L' k' err ∧ Ours B w' b bd room L' k' S' ∧ Step S S' w w' ∧
      ((err = 0 ∧ ∃ (g t : Nat) (x : Sl) (M : List (Nat × Sl)), v = .slice (some ⟨g, 0, none⟩) 64 64 ∧ B ≤ g ∧ w.heap.size ≤ g ∧ Bk w' g 65 (same x.c) ∧ s = (t : Int) ∧ L' = M ++ [(t, x)] ∧ ∀ j, S' j → j ≠ g) ∨ (err ≠ 0 ∧ v = .slice none 0 0)) := by
  cases hh : k.has s
  · refine (get_bad h.1 hh).mono ?_
    rintro e w' ⟨rfl, rfl⟩
    exact ⟨_, 1, L, k, S, rfl, .inr (.inr (.inr ⟨hh, rfl, rfl, rfl⟩)), h, Step.refl _ _, .inr ⟨by decide, rfl⟩⟩
  · obtain ⟨t, rfl, ht⟩ := has_nat hh
    have fin : ∀ (w1 w' : World) (M : List (Nat × Sl)) (x : Sl) (k' : Dk Nat) (g : Nat), w.heap.size ≤ g → Bk w' g 65 (same x.c) → BTurned S w w1 b bd room (keysI (M ++ [(t, x)])) (M ++ [(t, x)]) k' → Below w1.heap.size w1 w' → ∃ S', Ours B w' b bd room (M ++ [(t, x)]) k' S' ∧ Step S S' w w' ∧ ∀ j, S' j → j ≠ g := by
      intro w1 w' M x k' g hg hBg hT hb
      obtain ⟨hK, S1, hB1, hS1⟩ := hT
      obtain ⟨S2, hO, hb1⟩ := h.step ⟨hK, S1, hB1, hS1⟩ hB rfl
      refine ⟨S2, hO.below hb, hb1.more hb, fun j hj e => ?_⟩
      subst e
      obtain ⟨Sc, Sd, rfl, hc, hd⟩ := (hO.below hb).1
      rcases hj with hj | hj
      · obtain ⟨bm, vo, E, rfl, hm, hLE⟩ := hc
        rcases hj with rfl | rfl | hj | hj
        · exact type_ne hm.blk hBg (by decide) rfl
        · exact hm.ne_map hBg rfl
        · obtain ⟨_, _, cur, h2⟩ := hm.ord.lt hj
          exact type_ne h2 hBg (by decide) rfl
        · obtain ⟨e, he, rfl⟩ := List.mem_map.1 hj
          exact type_ne (hm.sl e he) hBg (by decide) rfl
      · obtain ⟨c, ty, hc, htt⟩ := disk_type hd hj
        exact type_ne hc hBg (by rcases htt with rfl | rfl | rfl <;> decide) rfl
    rcases entry_or L t with ⟨i, x, hL⟩ | hno
    · refine (get_hit h.1 F hL).mono ?_
      rintro e w' ⟨g, rfl, hg, hBg, w1, hT, hb⟩
      obtain ⟨S', hO, hb', hne⟩ := fin w1 w' _ x k g hg hBg hT hb
      exact ⟨_, 0, _, k, S', rfl, .inl ⟨i, t, x, rfl, hL, rfl, rfl, rfl⟩, hO, hb', .inl ⟨rfl, g, t, x, _, rfl, Nat.le_trans hB hg, hg, hBg, rfl, rfl, hne⟩⟩
    · cases hk : roomK room L k with
      | none =>
        refine (get_full h.1 F ht hno hk).mono ?_
        rintro e w' ⟨rfl, hT⟩
        obtain ⟨S', hO, hb⟩ := h.step hT hB rfl
        exact ⟨_, 5, L, k, S', rfl, .inr (.inr (.inl ⟨t, rfl, hno, ht, hk, rfl, rfl, rfl⟩)), hO, hb, .inr ⟨by decide, rfl⟩⟩
      | some q =>
        obtain ⟨L1, k1⟩ := q
        have hl : t < k1.now.length := by unfold Dk.now; rw [length_puts, roomK_len hk]; exact ht
        have hc : k1.now[t]? = some k1.now[t] := List.getElem?_eq_getElem hl
        refine (get_miss h.1 F hN ht hno hk hc).mono ?_
        rintro e w' ⟨g, rfl, hg, hBg, w1, hT, hb⟩
        obtain ⟨S', hO, hb', hne⟩ := fin w1 w' L1 ⟨k1.now[t], 0, false, 0⟩ k1 g hg hBg hT hb
        exact ⟨_, 0, _, k1, S', rfl, .inr (.inl ⟨t, _, L1, rfl, hno, ht, hk, hc, rfl, rfl⟩), hO, hb', .inl ⟨rfl, g, t, ⟨k1.now[t], 0, false, 0⟩, L1, rfl, Nat.le_trans hB hg, hg, hBg, rfl, rfl, hne⟩⟩

theorem cput_all (h : Ours B w b bd room L k S) (hB : B ≤ w.heap.size) (F : Fine N L k) (hN : N ≤ 1000000000) (s : Int) {c g : Nat} (hg : Bk w g 5 (same c)) (hS : ¬ S g) :
    Calls Try.prog 14 #[.pointer (some ⟨b, 0, none⟩), .agg #[.int .i64 s, .slice (some ⟨g, 0, none⟩) 64 64, .int .u16 (c : Int)]] w fun e w' => ∃ err L' k' S', e = .returned (.int .i64 err) ∧ PutR room L k s c L' k' err ∧ Ours B w' b bd room L' k' S' ∧ Step S S' w w' := by
  cases hh : k.has s
  · refine (put_bad h.1 _ _ hh).mono ?_
    rintro e w' ⟨rfl, hb⟩
    exact ⟨1, L, k, S, rfl, .inr (.inr (.inr ⟨hh, rfl, rfl, rfl⟩)), h.below hb, ⟨Kept.of_below hb, fun _ ht => .inl ht⟩⟩
  · obtain ⟨t, rfl, ht⟩ := has_nat hh
    rcases entry_or L t with ⟨i, x, hL⟩ | hno
    · refine (put_hit h.1 F hL hg hS).mono ?_
      rintro e w' ⟨rfl, hT⟩
      obtain ⟨S', hO, hb⟩ := h.step hT hB rfl
      exact ⟨0, _, k, S', rfl, .inl ⟨i, t, x, rfl, hL, rfl, rfl, rfl⟩, hO, hb⟩
    · cases hk : roomK room L k with
      | none =>
        refine (put_full h.1 F g _ ht hno hk).mono ?_
        rintro e w' ⟨rfl, hT⟩
        obtain ⟨S', hO, hb⟩ := h.step hT hB rfl
        exact ⟨5, L, k, S', rfl, .inr (.inr (.inl ⟨t, rfl, hno, ht, hk, rfl, rfl, rfl⟩)), hO, hb⟩
      | some q =>
        obtain ⟨L1, k1⟩ := q
        refine (put_miss h.1 F hN ht hno hk hg hS).mono ?_
        rintro e w' ⟨rfl, hT⟩
        obtain ⟨S', hO, hb⟩ := h.step hT hB rfl
        exact ⟨0, _, k1, S', rfl, .inr (.inl ⟨t, L1, rfl, hno, ht, hk, rfl, rfl⟩), hO, hb⟩

theorem neg_or (s : Int) : (∃ t : Nat, s = (t : Int)) ∨ ∀ t : Nat, (t : Int) ≠ s := by
  by_cases h : 0 ≤ s
  · exact .inl ⟨s.toNat, by omega⟩
  · exact .inr fun t e => by omega

theorem pin_all (h : Ours B w b bd room L k S) (hB : B ≤ w.heap.size) (F : Fine N L k) (hp : ∀ p ∈ L, p.2.pins ≤ 1000000000) (s : Int) (hs : I64 s) :
    Calls Try.prog 15 #[.pointer (some ⟨b, 0, none⟩), .int .i64 s] w fun e w' => ∃ err L' S', e = .returned (.int .i64 err) ∧ PinR L s L' err ∧ Ours B w' b bd room L' k S' ∧ Step S S' w w' := by
  have none_case : (∀ p ∈ L, (p.1 : Int) ≠ s) → Calls Try.prog 15 #[.pointer (some ⟨b, 0, none⟩), .int .i64 s] w fun e w' => ∃ err L' S', e = .returned (.int .i64 err) ∧ PinR L s L' err ∧ Ours B w' b bd room L' k S' ∧ Step S S' w w' := fun hno => by
    refine (pin_none h.1 hs hno).mono ?_
    rintro e w' ⟨rfl, rfl⟩
    exact ⟨2, L, S, rfl, .inr ⟨hno, rfl, rfl⟩, h, Step.refl _ _⟩
  rcases neg_or s with ⟨t, rfl⟩ | hneg
  · rcases entry_or L t with ⟨i, x, hL⟩ | hno
    · have hm := List.mem_of_getElem? hL
      refine (pin_ok h.1 hL (Nat.le_trans (Nat.le_of_lt (F.key _ hm)) F.n) (hp _ hm)).mono ?_
      rintro e w' ⟨rfl, hT⟩
      obtain ⟨S', hO, hb⟩ := h.step hT hB (set_keys hL).symm
      exact ⟨0, _, S', rfl, .inl ⟨i, t, x, rfl, hL, rfl, rfl⟩, hO, hb⟩
    · exact none_case fun p hp e => hno p hp (by omega)
  · exact none_case fun p _ => hneg p.1
theorem unpin_all (h : Ours B w b bd room L k S) (hB : B ≤ w.heap.size) (F : Fine N L k) (hp : ∀ p ∈ L, p.2.pins ≤ 1000000000) (s : Int) (hs : I64 s) :
    Calls Try.prog 16 #[.pointer (some ⟨b, 0, none⟩), .int .i64 s] w fun e w' => ∃ err L' S', e = .returned (.int .i64 err) ∧ UnpinR L s L' err ∧ Ours B w' b bd room L' k S' ∧ Step S S' w w' := by
  have none_case : (∀ p ∈ L, (p.1 : Int) ≠ s) → Calls Try.prog 16 #[.pointer (some ⟨b, 0, none⟩), .int .i64 s] w fun e w' => ∃ err L' S', e = .returned (.int .i64 err) ∧ UnpinR L s L' err ∧ Ours B w' b bd room L' k S' ∧ Step S S' w w' := fun hno => by
    refine (unpin_none h.1 hs hno).mono ?_
    rintro e w' ⟨rfl, rfl⟩
    exact ⟨2, L, S, rfl, .inr ⟨.inl hno, rfl, rfl⟩, h, Step.refl _ _⟩
  rcases neg_or s with ⟨t, rfl⟩ | hneg
  · rcases entry_or L t with ⟨i, x, hL⟩ | hno
    · have hm := List.mem_of_getElem? hL
      have hs4 : t ≤ 4096 := Nat.le_trans (Nat.le_of_lt (F.key _ hm)) F.n
      by_cases hz : x.pins = 0
      · refine (unpin_zero h.1 hL hs4 hz).mono ?_
        rintro e w' ⟨rfl, rfl⟩
        exact ⟨2, L, S, rfl, .inr ⟨.inr ⟨i, t, x, rfl, hL, hz⟩, rfl, rfl⟩, h, Step.refl _ _⟩
      · refine (unpin_ok h.1 hL hs4 (hp _ hm) hz).mono ?_
        rintro e w' ⟨rfl, hT⟩
        obtain ⟨S', hO, hb⟩ := h.step hT hB (set_keys hL).symm
        exact ⟨0, _, S', rfl, .inl ⟨i, t, x, rfl, hL, hz, rfl, rfl⟩, hO, hb⟩
    · exact none_case fun p hp e => hno p hp (by omega)
  · exact none_case fun p _ => hneg p.1

/-- What a Flush makes of them. -/
def FlushR (L : List (Nat × Sl)) (k : Dk Nat) (l : List Int) (L' : List (Nat × Sl)) (k' : Dk Nat) : Prop :=
  l.Perm (keysI (L.filter fun p => p.2.dirty)) ∧ L' = (l.foldl cleanAt (L, k)).1 ∧ k' = (l.foldl cleanAt (L, k)).2.flush
theorem flush_all (h : Ours B w b bd room L k S) (hB : B ≤ w.heap.size) (F : Fine N L k) (hN : N ≤ 1000000000) (hp : ∀ p ∈ L, p.2.pins ≤ 1000000000) :
    Calls Try.prog 17 #[.pointer (some ⟨b, 0, none⟩)] w fun e w' => ∃ l L' k' S', e = .returned (.int .i64 0) ∧ FlushR L k l L' k' ∧ Ours B w' b bd room L' k' S' ∧ Step S S' w w' := by
  refine (cflush_any h.1 F hN hp).mono ?_
  rintro e w' ⟨l, hl, rfl, hT, hG⟩
  obtain ⟨S', hO, hb⟩ := h.step hT hB hG.keys.symm
  exact ⟨l, _, _, S', rfl, ⟨hl, rfl, rfl⟩, hO, hb⟩
end
end Go.Proofs.Ytnmfpgeojggjbaa
