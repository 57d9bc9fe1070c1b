/-
  Acts, as they lie; the first few; an act's patches.
-/
import Derived.Test.YtnkpmmijdkcdjaaQ
namespace Go.Proofs.Ytnkpmmijdkcdjaa
open Go.RowKit
attribute [local go_sem ↓] Go.wp_at_zero Go.wp_at_succ

/-- Sets, as they lie. -/
def Sets (w : World) (B : Nat) (A : Option Addr) (l : List (Int × Nat)) : Prop :=
  ∀ i s, l[i]? = some s → ∃ b o, A = some ⟨b, o, none⟩ ∧ b < B ∧ w.cell? ⟨b, o + i * 2, none⟩ = some (.int .i64 s.1) ∧ w.cell? ⟨b, o + i * 2 + 1, none⟩ = some (.int .u8 (s.2 : Int))
theorem Sets.below {w w' : World} {B : Nat} {A : Option Addr} {l : List (Int × Nat)} (h : Sets w B A l) (hb : Below B w w') : Sets w' B A l := fun i s hs => by
  obtain ⟨b, o, h1, h2, h3, h4⟩ := h i s hs
  exact ⟨b, o, h1, h2, (hb.cell h2).trans h3, (hb.cell h2).trans h4⟩
theorem Sets.more {w : World} {B B' : Nat} {A : Option Addr} {l : List (Int × Nat)} (h : Sets w B A l) (hB : B ≤ B') : Sets w B' A l := fun i s hs => by
  obtain ⟨b, o, h1, h2, h3, h4⟩ := h i s hs
  exact ⟨b, o, h1, by omega, h3, h4⟩
/-- What is done. -/
structure Act where
  kind : Nat
  lA : Option Addr
  ln : Nat
  lc : Nat
  at_ : Int
  c : Nat
  bA : Option Addr
  bn : Nat
  bc : Nat
  there : Nat
  sets : List (Int × Nat)
structure Act.Good (a : Act) : Prop where
  kind : a.kind < 256
  len : a.sets.length = a.ln
  lc : a.ln ≤ a.lc
  bc : a.bn ≤ a.bc
  at_ : I64 a.at_
  there : a.there < 18446744073709551616
  sets : ∀ s ∈ a.sets, I64 s.1 ∧ s.2 < 256
/-- Its cells. -/
def Act.cells (a : Act) : List Value := [.int .u8 (a.kind : Int), .slice a.lA a.ln a.lc, .int .i64 a.at_, .int .u8 (a.c : Int), .slice a.bA a.bn a.bc, .int .u64 (a.there : Int)]
/-- A slice of them. -/
def Acts (w : World) (B : Nat) (A : Option Addr) (l : List Act) : Prop :=
  l = [] ∨ ∃ b o, A = some ⟨b, o, none⟩ ∧ b < B ∧ ∀ i a, l[i]? = some a → a.Good ∧ (∀ j u, a.cells[j]? = some u → w.cell? ⟨b, o + i * 6 + j, none⟩ = some u) ∧ Sets w B a.lA a.sets
theorem Acts.below {w w' : World} {B : Nat} {A : Option Addr} {l : List Act} (h : Acts w B A l) (hb : Below B w w') : Acts w' B A l := by
  rcases h with h | ⟨b, o, h1, h2, h3⟩
  · exact .inl h
  · exact .inr ⟨b, o, h1, h2, fun i a hi => ⟨(h3 i a hi).1, fun j u hu => (hb.cell h2).trans ((h3 i a hi).2.1 j u hu), (h3 i a hi).2.2.below hb⟩⟩
theorem Acts.more {w : World} {B B' : Nat} {A : Option Addr} {l : List Act} (h : Acts w B A l) (hB : B ≤ B') : Acts w B' A l := by
  rcases h with h | ⟨b, o, h1, h2, h3⟩
  · exact .inl h
  · exact .inr ⟨b, o, h1, by omega, fun i a hi => ⟨(h3 i a hi).1, (h3 i a hi).2.1, (h3 i a hi).2.2.more hB⟩⟩
theorem Acts.at {w : World} {B : Nat} {A : Option Addr} {l : List Act} (h : Acts w B A l) {i : Nat} (hi : i < l.length) : ∃ b o a, A = some ⟨b, o, none⟩ ∧ b < B ∧ l[i]? = some a ∧ a.Good ∧ Sets w B a.lA a.sets ∧
    w.cell? ⟨b, o + i * 6, none⟩ = some (.int .u8 (a.kind : Int)) ∧ w.cell? ⟨b, o + i * 6 + 1, none⟩ = some (.slice a.lA a.ln a.lc) ∧ w.cell? ⟨b, o + i * 6 + 2, none⟩ = some (.int .i64 a.at_) ∧ w.cell? ⟨b, o + i * 6 + 3, none⟩ = some (.int .u8 (a.c : Int)) ∧
    w.cell? ⟨b, o + i * 6 + 4, none⟩ = some (.slice a.bA a.bn a.bc) ∧ w.cell? ⟨b, o + i * 6 + 5, none⟩ = some (.int .u64 (a.there : Int)) := by
  rcases h with rfl | ⟨b, o, h1, h2, h3⟩
  · simp at hi
  · obtain ⟨hg, hc, hs⟩ := h3 i _ (List.getElem?_eq_getElem hi)
    exact ⟨b, o, _, h1, h2, List.getElem?_eq_getElem hi, hg, hs, hc 0 _ rfl, hc 1 _ rfl, hc 2 _ rfl, hc 3 _ rfl, hc 4 _ rfl, hc 5 _ rfl⟩

set_option maxHeartbeats 1600000 in
theorem few_any (l : List Act) (A : Option Addr) (n c : Nat) (w : World) (hn : l.length = n) (hc : n ≤ c) (hm : c ≤ 9223372036854775807) (hr : Acts w w.heap.size A l) :
    Calls Try.prog 16 #[.slice A n c] w fun e w' => ∃ q, e = .returned (.slice A q c) ∧ q ≤ n ∧ q ≤ 40 ∧ (∀ i a, i < q → l[i]? = some a → a.ln ≤ 60) ∧ w = w' := by
  have Hr := Lib.hid hr
  have Hn := Lib.hid hn
  clear hr hn
  go_enter Try.func16, Try.ntmps16
  go_wp2
  go_loopw [3, 6] (fun _ i wr => ∃ j : Nat, j ≤ n ∧ j ≤ 40 ∧ i = .int .i64 (j : Int) ∧ Hid (∀ i a, i < j → l[i]? = some a → a.ln ≤ 60) ∧ wr = w) (fun _ i _ => n - (intOf i).toNat)
  case atStart => exact ⟨0, Nat.zero_le _, Nat.zero_le _, rfl, fun i _ hi => absurd hi (Nat.not_lt_zero _), rfl⟩
  case round =>
    obtain ⟨j, hj, hj2, rfl, hall, rfl⟩ := hrel
    by_cases hlt : j < n
    · obtain ⟨b, o, a, rfl, hb, ha, hg, hs, c0, c1, c2, c3, c4, c5⟩ := Hr.out.at (i := j) (by rw [Hn.out]; exact hlt)
      have Ha := Lib.hid ha
      have hln := hg.lc
      have hbn := hg.bc
      clear ha hg hs c0 c2 c3 c5 hb
      by_cases h40 : 40 ≤ j
      · obtain rfl : j = 40 := by omega
        clear c1 c4 hln hbn
        go_wp2
        go_ret
        exact ⟨40, rfl, by omega, by omega, hall.out, rfl⟩
      · have hi : ¬ ((40 : Int) ≤ (j : Int)) := by omega
        by_cases h60 : 60 < a.ln
        · have h2 : (60 : Int) < (a.ln : Int) := by omega
          clear hln hbn
          go_wp2
          go_ret
          exact ⟨j, rfl, by omega, by omega, hall.out, rfl⟩
        · have h2 : ¬ ((60 : Int) < (a.ln : Int)) := by omega
          by_cases h200 : 200 < a.bn
          · have h3 : (200 : Int) < (a.bn : Int) := by omega
            clear hln hbn
            go_wp2
            go_ret
            exact ⟨j, rfl, by omega, by omega, hall.out, rfl⟩
          · have h3 : ¬ ((200 : Int) < (a.bn : Int)) := by omega
            have hnext : Hid (∀ i a, i < j + 1 → l[i]? = some a → a.ln ≤ 60) := fun i a' hi ha' => by
              rcases Nat.lt_or_ge i j with h | h
              · exact hall.out i a' h ha'
              · obtain rfl : i = j := by omega
                have := Ha.out
                rw [this] at ha'
                cases ha'
                omega
            clear hln hbn
            go_wp2
            go_roundw
            case rel => exact ⟨j + 1, by omega, by omega, by go_num, hnext, by first | trivial | rfl⟩
            case measure => simp [intOf]; omega
    · obtain rfl : j = n := by omega
      go_wp2
      go_ret
      exact ⟨j, rfl, by omega, by omega, hall.out, rfl⟩

/-- Patches that are appended one by one. -/
def PatP (W : World) (U : Nat → Prop) (cs : List Value) (p : Int × Sx) : Prop :=
  ∃ ba, cs = [.int .i64 p.1, .slice (some ⟨ba, 0, none⟩) 64 64, .int .u16 (p.2.t : Int)] ∧ U ba ∧ ba < W.heap.size ∧ W.rangeAt ba 0 (bytesV p.2.b)
structure R3 (n₀ : Nat) (U : Nat → Prop) (v : Value) (L : List (List Value)) (ps : List (Int × Sx)) (W : World) : Prop where
  own : W.ownsRow n₀ 49 3 v L.length L.flatten
  len : L.length = ps.length
  els : ∀ (k : Nat) (cs : List Value) (p : Int × Sx), L[k]? = some cs → ps[k]? = some p → PatP W U cs p
  low : ∀ i, U i → n₀ ≤ i ∧ i < W.heap.size
  nown : ∀ g, v.ownBlock = some g → ¬ U g
theorem R3.nil (n₀ : Nat) (W : World) : R3 n₀ (fun _ => False) (.slice none 0 0) [] [] W := ⟨World.ownsRow_nil _ _ _ _, rfl, fun k cs p h => by simp at h, fun _ h => h.elim, fun _ _ h => h⟩
section
variable {n₀ : Nat} {U : Nat → Prop} {v : Value} {L : List (List Value)} {ps : List (Int × Sx)} {W W' : World}
theorem R3.below (h : R3 n₀ U v L ps W) (hb : Below W.heap.size W W') : R3 n₀ U v L ps W' :=
  ⟨own_below h.own hb, h.len, fun k cs p hk hp => by obtain ⟨ba, e1, e2, e3, e4⟩ := h.els k cs p hk hp; exact ⟨ba, e1, e2, Nat.lt_of_lt_of_le e3 hb.size, range_of_block e4 (hb.block ba e3)⟩, fun i hi => ⟨(h.low i hi).1, Nat.lt_of_lt_of_le (h.low i hi).2 hb.size⟩, h.nown⟩
theorem R3.at (h : R3 n₀ U v L ps W) {k : Nat} {cs : List Value} (hk : L[k]? = some cs) : ∃ p, ps[k]? = some p ∧ PatP W U cs p := by
  have hlt := (List.getElem?_eq_some_iff.1 hk).1
  obtain ⟨p, hp⟩ : ∃ p, ps[k]? = some p := ⟨_, List.getElem?_eq_getElem (by rw [← h.len]; exact hlt)⟩
  exact ⟨p, hp, h.els k cs p hk hp⟩
theorem R3.lens (h : R3 n₀ U v L ps W) : ∀ c ∈ L, c.length = 3 ∧ ∀ u ∈ c, u.oneCell' = true := fun c hc => by
  obtain ⟨k, hk⟩ := List.mem_iff_getElem?.1 hc
  obtain ⟨p, _, ba, rfl, _⟩ := h.at hk
  refine ⟨rfl, fun u hu => ?_⟩
  simp only [List.mem_cons, List.not_mem_nil, or_false] at hu
  rcases hu with rfl | rfl | rfl <;> rfl
/-- One more, behind the append. -/
theorem R3.push (h : R3 n₀ U v L ps W) {W1 : World} (hb : Below W.heap.size W W1) {ba : Nat} (p : Int × Sx) (h1 : W.heap.size ≤ ba) (h2 : ba < W1.heap.size) (h0 : n₀ ≤ W.heap.size) (hr : W1.rangeAt ba 0 (bytesV p.2.b)) {g cap : Nat}
    (hown : W'.ownsRow n₀ 49 3 (.slice (some ⟨g, 0, none⟩) (L.length + 1) cap) (L.length + 1) (L.flatten ++ [.int .i64 p.1, .slice (some ⟨ba, 0, none⟩) 64 64, .int .u16 (p.2.t : Int)])) (hg : W1.grownBy W' v.ownBlock) (hat : v.ownBlock = some g ∨ g = W1.heap.size) :
    R3 n₀ (fun i => U i ∨ i = ba) (.slice (some ⟨g, 0, none⟩) (L.length + 1) cap) (L ++ [[.int .i64 p.1, .slice (some ⟨ba, 0, none⟩) 64 64, .int .u16 (p.2.t : Int)]]) (ps ++ [p]) W' := by
  have hv : ∀ g, v.ownBlock = some g → g < W.heap.size := fun g hg => by
    rcases h.own.2 with ⟨rfl, _⟩ | ⟨g', cap', cur, rfl, _, hgb, _⟩
    · simp [Value.ownBlock] at hg
    · obtain rfl : g' = g := by simpa [Value.ownBlock] using hg
      exact (Array.getElem?_eq_some_iff.1 hgb).1
  have hkeep : ∀ i, (U i ∨ i = ba) → W'.heap[i]? = W1.heap[i]? := fun i hi => by
    refine hg.block i ?_ fun e => ?_
    · rcases hi with hi | rfl
      · have := (h.low i hi).2; have := hb.size; omega
      · exact h2
    · rcases hi with hi | rfl
      · exact h.nown i e.symm hi
      · have := hv _ e.symm; omega
  refine ⟨by rw [List.length_append, List.flatten_append]; simpa using hown, by rw [List.length_append, List.length_append, h.len]; rfl, fun k cs q hk hq => ?_, fun i hi => ?_, fun g' hg' hi => ?_⟩
  · rcases Nat.lt_or_ge k L.length with hlt | hge
    · rw [List.getElem?_append_left hlt] at hk
      rw [List.getElem?_append_left (by rw [← h.len]; exact hlt)] at hq
      obtain ⟨b2, e1, e2, e3, e4⟩ := h.els k cs q hk hq
      exact ⟨b2, e1, .inl e2, by have := hb.size; have := hg.size; omega, range_of_block e4 ((hkeep b2 (.inl e2)).trans (hb.block b2 e3))⟩
    · rw [List.getElem?_append_right hge] at hk
      rw [List.getElem?_append_right (by rw [← h.len]; exact hge), ← h.len] at hq
      cases hkk : k - L.length with
      | zero =>
        rw [hkk] at hk hq
        simp at hk hq
        subst hk; subst hq
        exact ⟨ba, rfl, .inr rfl, Nat.lt_of_lt_of_le h2 hg.size, range_of_block hr (hkeep ba (.inr rfl))⟩
      | succ j => rw [hkk] at hk; simp at hk
  · rcases hi with hi | rfl
    · exact ⟨(h.low i hi).1, by have := (h.low i hi).2; have := hb.size; have := hg.size; omega⟩
    · exact ⟨by omega, Nat.lt_of_lt_of_le h2 hg.size⟩
  · obtain rfl : g = g' := by simpa [Value.ownBlock] using hg'
    rcases hat with hat | hat
    · rcases hi with hi | rfl
      · exact h.nown _ hat hi
      · have := hv _ hat; omega
    · rcases hi with hi | rfl
      · have := (h.low _ hi).2; have := hb.size; omega
      · omega
theorem R3.pats (h : R3 n₀ U v L ps W) : ∃ A c, v = .slice A ps.length c ∧ ps.length ≤ c ∧ (0 < ps.length → ∃ g, A = some ⟨g, 0, none⟩) ∧ Pats W (fun i => n₀ ≤ i) A ps := by
  rcases h.own.2 with ⟨rfl, h0⟩ | ⟨g, cap, cur, rfl, hb, hgb, hc, _⟩
  · have hl := h.len
    refine ⟨none, 0, by rw [← hl, h0], by omega, fun hp => by omega, fun i p hp => ?_⟩
    have := (List.getElem?_eq_some_iff.1 hp).1
    omega
  · refine ⟨some ⟨g, 0, none⟩, cap, by rw [h.len], by rw [← h.len]; exact hc, fun _ => ⟨g, rfl⟩, fun i p hp => ?_⟩
    have hrow := Row.of_owns h.own rfl (fun c hc => (h.lens c hc).1) (fun c hc => (h.lens c hc).2)
    have hi : i < L.length := by rw [h.len]; exact (List.getElem?_eq_some_iff.1 hp).1
    have hk : L[i]? = some L[i] := List.getElem?_eq_getElem hi
    obtain ⟨ba, e1, e2, e3, e4⟩ := h.els i _ p hk hp
    have hr := (hrow.elem i _ hk).2.2
    rw [e1] at hr
    refine ⟨g, 0, ba, 0, 64, rfl, hb, (h.low ba e2).1, (Array.getElem?_eq_some_iff.1 hgb).1, e3, Nat.le_refl _, ?_, ?_, ?_, e4⟩
    · rw [Nat.zero_add]; exact hr 0 _ rfl
    · rw [Nat.zero_add]; exact hr 1 _ rfl
    · rw [Nat.zero_add]; exact hr 2 _ rfl
end
theorem Boxed41.not_row {W : World} {g : Nat} {cs : List Value} (h : Bk W g 41 cs) {o : Obj} {base size n : Nat} {v : Value} {xs : List Value} (hr : (W.alloc o).ownsRow base 49 size v n xs) : some g ≠ v.ownBlock := by
  rcases hr.2 with ⟨rfl, _⟩ | ⟨g', cap, cur, rfl, _, hgb, _⟩
  · simp [Value.ownBlock]
  · intro e
    obtain rfl : g = g' := by simpa [Value.ownBlock] using e
    have h2 : (W.alloc o).heap[g]? = some (.cells cs.toArray 41 (0, 0)) := (Below.heap_alloc _ _ _ h.lt).trans h
    rw [h2] at hgb
    cases hgb
/-- A set's patch. -/
def setP (s : Int × Nat) : Int × Sx := (s.1, cx s.2)

set_option maxRecDepth 100000 in
set_option maxHeartbeats 3200000 in
theorem patches_any (kind : Nat) (lA : Option Addr) (ln lc : Nat) (at_ : Value) (c : Value) (bv : Value) (there : Value) (_h1 : at_.oneCell' = true) (_h2 : c.oneCell' = true) (_h3 : bv.oneCell' = true) (_h4 : there.oneCell' = true) (hk : kind < 256) (hk4 : kind % 6 ≠ 4) (sets : List (Int × Nat)) (hl : sets.length = ln) (hln : ln ≤ 100000) (w : World) (hs : Sets w w.heap.size lA sets)
    (hv : ∀ s ∈ sets, s.2 < 256) :
    Calls Try.prog 19 #[.agg #[.int .u8 (kind : Int), .slice lA ln lc, at_, c, bv, there]] w fun e w' => ∃ A cp, e = .returned (.slice A ln cp) ∧ ln ≤ cp ∧ (0 < ln → ∃ g, A = some ⟨g, 0, none⟩) ∧ Pats w' (fun i => w.heap.size ≤ i) A (sets.map setP) ∧ Below w.heap.size w w' := by
  have hkb : ((kind : Int) % 6 == 4) = false := by rw [beq_eq_false_iff_ne]; omega
  have Hs := Lib.hid hs
  have Hl := Lib.hid hl
  have Hv := Lib.hid hv
  obtain ⟨i0, hi, hz0, hz1, hz2⟩ := info_parts info49
  clear hs hl hv
  have b0 := Bk.new w 41 [.int .u8 (kind : Int), .slice lA ln lc, at_, c, bv, there]
  have hb0 : Below w.heap.size w (w.alloc (.cells #[.int .u8 (kind : Int), .slice lA ln lc, at_, c, bv, there] 41)) := (Below.refl _ _).alloc (Nat.le_refl _) _
  have B0 := Lib.hid b0
  have Hb0 := Lib.hid hb0
  go_enter Try.func19, Try.ntmps19
  go_wp2
  go_loopw [3, 5, 6, 10] (fun v _ _ i wr => ∃ (j : Nat) (U : Nat → Prop) (L : List (List Value)), j ≤ ln ∧ i = .int .i64 (j : Int) ∧ R3 w.heap.size U v L ((sets.take j).map setP) wr ∧ Below w.heap.size w wr ∧ Bk wr w.heap.size 41 [.int .u8 (kind : Int), .slice lA ln lc, at_, c, bv, there]) (fun _ _ _ i _ => ln - (intOf i).toNat)
  case atStart => exact ⟨0, _, _, Nat.zero_le _, rfl, R3.nil _ _, Hb0.out, B0.out⟩
  case round =>
    obtain ⟨j, U, L, hj, rfl, hR, hb, hB⟩ := hrel
    have HR := Lib.hid hR
    have Hb := Lib.hid hb
    have HB := Lib.hid hB
    clear hR hb hB
    by_cases hlt : j < ln
    · obtain ⟨s, hsj⟩ : ∃ s, sets[j]? = some s := ⟨_, List.getElem?_eq_getElem (by rw [Hl.out]; exact hlt)⟩
      obtain ⟨b1, o, rfl, hb1, c0, c1⟩ := (Hs.out.below Hb.out) j s hsj
      have hv2 := Hv.out s (List.mem_of_getElem? hsj)
      have htake : Hid ((sets.take (j + 1)).map setP = (sets.take j).map setP ++ [setP s]) := by
        obtain ⟨q1, q2⟩ := List.getElem?_eq_some_iff.1 hsj
        show _ = _
        rw [List.take_succ_eq_append_getElem q1, q2, List.map_append]; rfl
      obtain ⟨s1, s2⟩ := s
      simp only at c0 c1 hv2
      have hLl : L.length = j := by rw [HR.out.len, List.length_map, List.length_take, Hl.out]; omega
      clear hsj
      have Hv2 := Lib.hid hv2
      have HLl := Lib.hid hLl
      clear hLl
      have hsz := Hb.out.size
      have hlt41 := HB.out.lt
      go_wp2_with fail
      refine (patch_any s1 s2 Hv2.out _).mono ?_
      rintro e w1 ⟨ba, rfl, hba, hBa, hb1⟩
      have hbA : Below wr.heap.size wr (wr.alloc (.cells #[.int .i64 s1, .int .u8 (s2 : Int)] 43)) := (Below.refl _ _).alloc (Nat.le_refl _) _
      have hb2 : Below wr.heap.size wr w1 := hbA.trans (hb1.mono hbA.size)
      have hb3 : Below wr.heap.size wr (w1.alloc (.cells #[.int .i64 s1, .slice (some ⟨ba, 0, none⟩) 64 64, .int .u16 (s2 : Int)] 49)) := hb2.alloc hb2.size _
      have hb4 : Below wr.heap.size wr ((w1.alloc (.cells #[.int .i64 s1, .slice (some ⟨ba, 0, none⟩) 64 64, .int .u16 (s2 : Int)] 49)).alloc (.cells #[.int .i64 s1, .slice (some ⟨ba, 0, none⟩) 64 64, .int .u16 (s2 : Int)] 49)) := hb3.alloc hb3.size _
      have hB1 : Bk (w1.alloc (.cells #[.int .i64 s1, .slice (some ⟨ba, 0, none⟩) 64 64, .int .u16 (s2 : Int)] 49)) w.heap.size 41 [.int .u8 (kind : Int), .slice (some ⟨b1, o, none⟩) ln lc, at_, c, bv, there] := (hb3.block _ hlt41).trans HB.out
      have ck := hB1.cell 0
      have hP0 := Bk.new w1 49 [.int .i64 s1, .slice (some ⟨ba, 0, none⟩) 64 64, .int .u16 (s2 : Int)]
      have p0 := hP0.cell 0
      have p1 := hP0.cell 1
      have p2 := hP0.cell 2
      have Hba := Lib.hid hba
      have HBa := Lib.hid hBa
      have Hb2 := Lib.hid hb2
      have Hb3 := Lib.hid hb3
      have Hb4 := Lib.hid hb4
      have HB3 := Lib.hid hB1
      have HR4 := Lib.hid (HR.out.below hb4)
      clear hba hBa hb1 hbA hb2 hb3 hb4 hB1 hP0 c0 c1
      have hown4 := HR4.out.own
      have Hown4 := Lib.hid hown4
      clear hown4
      go_wp2_with (at_builtin; refine wpList_append_lies _ rfl (.tmp 28) (.tmp 30) 45 rfl w.heap.size 49 i0 _ 3 40 Try.underlying45 hi hz0 hz1 hz2 rfl (by decide) _ L.length L.flatten rfl Hown4.out ⟨w1.heap.size + 1, 0, none⟩ 1 1 [.int .i64 s1, .slice (some ⟨ba, 0, none⟩) 64 64, .int .u16 (s2 : Int)] rfl rfl ?cc ?oc (by omega) (by have := HLl.out; simp only [maxLen]; omega) (by have := HLl.out; omega) (by have := Hb2.out.size; simp; omega) (w1.heap.size + 1 + 1) (by simp) ?_)
      case cc => exact World.news_of_block (cs := #[.int .i64 s1, .slice (some ⟨ba, 0, none⟩) 64 64, .int .u16 (s2 : Int)]) (by have h := heap_alloc_new (w1.alloc (.cells #[.int .i64 s1, .slice (some ⟨ba, 0, none⟩) 64 64, .int .u16 (s2 : Int)] 49)) (.cells #[.int .i64 s1, .slice (some ⟨ba, 0, none⟩) 64 64, .int .u16 (s2 : Int)] 49); simpa using h)
      case oc =>
        intro u hu
        simp only [List.mem_cons, List.not_mem_nil, or_false] at hu
        rcases hu with rfl | rfl | rfl <;> rfl
      intro g cap w' hown' hgrow hat hltg
      have hR5 : R3 w.heap.size (fun i => U i ∨ i = ba) (.slice (some ⟨g, 0, none⟩) (L.length + 1) cap) (L ++ [[Value.int .i64 s1, .slice (some ⟨ba, 0, none⟩) 64 64, .int .u16 (s2 : Int)]]) ((sets.take (j + 1)).map setP) w' := by
        rw [htake.out]
        have ht : (setP (s1, s2)).2.t = s2 := cx_tag s2 Hv2.out
        have h5 := R3.push (W' := w') (cap := cap) (g := g) HR.out Hb4.out (setP (s1, s2)) (ba := ba) (Nat.le_trans (by simp) Hba.out) (by have := HBa.out.lt; simp; omega) hsz (by
          refine range_of_block (w := w1) ?_ ((Below.heap_alloc _ _ _ (by have := HBa.out.lt; simp; omega)).trans (Below.heap_alloc _ _ _ HBa.out.lt))
          intro q u hu
          rw [Nat.zero_add, HBa.out.cell, ← cx_bytes s2 Hv2.out]
          exact hu) (by rw [ht]; exact hown') hgrow (by simpa using hat)
        rw [ht] at h5
        exact h5
      have hb5 : Below w.heap.size w w' := (Hb.out.trans (Hb4.out.mono hsz)).grown hgrow (by have := Hb4.out.size; omega) (fun q hq => (Hown4.out.lt q hq).1)
      have hB5 : Bk w' w.heap.size 41 [.int .u8 (kind : Int), .slice (some ⟨b1, o, none⟩) ln lc, at_, c, bv, there] := by
        have hne : some w.heap.size ≠ u3.ownBlock := Boxed41.not_row HB3.out Hown4.out
        exact (hgrow.block _ (by have h1 := hlt41; have h2 := Hb4.out.size; exact Nat.lt_of_lt_of_le h1 h2) hne).trans ((Below.heap_alloc _ _ _ HB3.out.lt).trans HB3.out)
      have A1 := Lib.hid hR5
      have A2 := Lib.hid hb5
      have A3 := Lib.hid hB5
      clear hR5 hb5 hB5 hown' hgrow hat hltg ck p0 p1 p2
      go_wp2
      go_roundw
      case rel => exact ⟨j + 1, _, _, by omega, by go_num, A1.out, A2.out, A3.out⟩
      case measure => simp [intOf]; omega
    · obtain rfl : j = ln := by omega
      have hall : sets.take j = sets := by rw [← Hl.out]; exact List.take_length
      rw [hall] at HR
      obtain ⟨A, cp, hv3, hcp, hpos, hP⟩ := HR.out.pats
      rw [List.length_map, Hl.out] at hv3 hcp hpos
      subst hv3
      go_wp2
      go_ret
      exact ⟨A, cp, rfl, hcp, hpos, hP, Hb.out⟩
end Go.Proofs.Ytnkpmmijdkcdjaa
