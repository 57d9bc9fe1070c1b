/-
  Things in memory, each in blocks of its own: what a call makes of one of them leaves the others as they are.
-/
import Derived.Test.YtnahccdjeilboaaD
namespace Go.Proofs.Ytnahccdjeilboaa.Apart
open Go.RowKit

/-- What is said of blocks of a world. -/
abbrev Asr := (Nat → Prop) → World → Prop
/-- It hangs on its own blocks alone. -/
structure Lcl (A : Asr) : Prop where
  out : ∀ (P : Nat → Prop) (w w' : World), A P w → (∀ i, P i → w'.heap[i]? = w.heap[i]?) → w.heap.size ≤ w'.heap.size → A P w'
def Bd (P : Nat → Prop) (w : World) : Prop := ∀ i, P i → i < w.heap.size
/-- What a call makes of a thing: in its own blocks, and new ones. -/
def Nx (A : Asr) (P : Nat → Prop) (w w' : World) : Prop := ∃ P' : Nat → Prop, A P' w' ∧ Kept P w w' ∧ ∀ i, P' i → (P i ∨ w.heap.size ≤ i) ∧ i < w'.heap.size
/-- Two things, apart. -/
def star (A C : Asr) : Asr := fun P w => ∃ P1 P2 : Nat → Prop, A P1 w ∧ C P2 w ∧ (∀ i, P i ↔ (P1 i ∨ P2 i)) ∧ ∀ i, P1 i → ¬ P2 i
section
variable {A A' C C' D : Asr} {P Q : Nat → Prop} {w u w' : World}
theorem Nx.bd (h : Nx A P w w') : ∃ P', A P' w' ∧ Bd P' w' := by
  obtain ⟨P', h1, -, h3⟩ := h
  exact ⟨P', h1, fun i hi => (h3 i hi).2⟩
theorem Nx.same (h : A P w) (hb : Bd P w) : Nx A P w w := ⟨P, h, Kept.refl _ _, fun i hi => ⟨.inl hi, hb i hi⟩⟩
theorem Nx.imp (h : Nx A P w w') (hi : ∀ P', A P' w' → A' P' w') : Nx A' P w w' := by
  obtain ⟨P', h1, h2, h3⟩ := h
  exact ⟨P', hi P' h1, h2, h3⟩
theorem Nx.below (h : A P w) (hA : Lcl A) (hb : Bd P w) (hw : Below w.heap.size w w') : Nx A P w w' :=
  ⟨P, hA.out _ _ _ h (fun i hi => hw.block i (hb i hi)) hw.size, Kept.of_below hw, fun i hi => ⟨.inl hi, Nat.lt_of_lt_of_le (hb i hi) hw.size⟩⟩
theorem Nx.size (h : Nx A P w w') : w.heap.size ≤ w'.heap.size := by
  obtain ⟨P', -, h2, -⟩ := h
  exact h2.size
theorem Nx.trans (h : Nx A P w u) (hn : ∀ P', A P' u → Bd P' u → Nx A' P' u w') : Nx A' P w w' := by
  obtain ⟨P1, h1, h2, h3⟩ := h
  obtain ⟨P2, h4, h5, h6⟩ := hn P1 h1 (fun i hi => (h3 i hi).2)
  refine ⟨P2, h4, h2.trans h5 (fun i hi => (h3 i hi).1), fun i hi => ⟨?_, (h6 i hi).2⟩⟩
  rcases (h6 i hi).1 with h7 | h7
  · exact (h3 i h7).1
  · exact .inr (Nat.le_trans h2.size h7)
theorem Lcl.star (hA : Lcl A) (hC : Lcl C) : Lcl (star A C) := ⟨fun _ _ _ ⟨P1, P2, h1, h2, h3, h4⟩ hk hs =>
  ⟨P1, P2, hA.out _ _ _ h1 (fun i hi => hk i ((h3 i).2 (.inl hi))) hs, hC.out _ _ _ h2 (fun i hi => hk i ((h3 i).2 (.inr hi))) hs, h3, h4⟩⟩
theorem star_comm (h : star A C P w) : star C A P w := by
  obtain ⟨P1, P2, h1, h2, h3, h4⟩ := h
  exact ⟨P2, P1, h2, h1, fun i => by rw [h3]; exact Or.comm, fun i h5 h6 => h4 i h6 h5⟩
theorem star_imp (h : star A C P w) (hA : ∀ P', A P' w → A' P' w) (hC : ∀ P', C P' w → C' P' w) : star A' C' P w := by
  obtain ⟨P1, P2, h1, h2, h3, h4⟩ := h
  exact ⟨P1, P2, hA _ h1, hC _ h2, h3, h4⟩
theorem star_assoc (h : star (star A C) D P w) : star A (star C D) P w := by
  obtain ⟨P1, P2, ⟨P3, P4, h1, h2, h3, h4⟩, h5, h6, h7⟩ := h
  refine ⟨P3, fun i => P4 i ∨ P2 i, h1, ⟨P4, P2, h2, h5, fun i => Iff.rfl, fun i h8 => h7 i ((h3 i).2 (.inr h8))⟩, fun i => ?_, fun i h8 h9 => ?_⟩
  · rw [h6, h3]
    exact or_assoc
  · rcases h9 with h9 | h9
    · exact h4 i h8 h9
    · exact h7 i ((h3 i).2 (.inl h8)) h9
/-- What a call makes of the first thing, beside another one. -/
theorem Nx.left (hC : Lcl C) (h : star A C P w) (hb : Bd P w) (hn : ∀ P1, A P1 w → Bd P1 w → Nx A' P1 w w') : Nx (star A' C) P w w' := by
  obtain ⟨P1, P2, h1, h2, h3, h4⟩ := h
  have hb2 : ∀ i, P2 i → i < w.heap.size := fun i hi => hb i ((h3 i).2 (.inr hi))
  obtain ⟨P1', h5, h6, h7⟩ := hn P1 h1 (fun i hi => hb i ((h3 i).2 (.inl hi)))
  refine ⟨fun i => P1' i ∨ P2 i, ⟨P1', P2, h5, hC.out _ _ _ h2 (fun i hi => h6.block i (hb2 i hi) (fun h8 => h4 i h8 hi)) h6.size, fun i => Iff.rfl, fun i h8 h9 => ?_⟩, ⟨h6.os, h6.tape, h6.output, h6.size, fun k hk hn => h6.block k hk (fun h8 => hn ((h3 k).2 (.inl h8)))⟩, fun i hi => ?_⟩
  · rcases (h7 i h8).1 with h10 | h10
    · exact h4 i h10 h9
    · have := hb2 i h9
      omega
  · rcases hi with hi | hi
    · refine ⟨?_, (h7 i hi).2⟩
      rcases (h7 i hi).1 with h10 | h10
      · exact .inl ((h3 i).2 (.inl h10))
      · exact .inr h10
    · exact ⟨.inl ((h3 i).2 (.inr hi)), Nat.lt_of_lt_of_le (hb2 i hi) h6.size⟩
theorem Nx.right (hA : Lcl A) (h : star A C P w) (hb : Bd P w) (hn : ∀ P1, C P1 w → Bd P1 w → Nx C' P1 w w') : Nx (star A C') P w w' :=
  (Nx.left hA (star_comm h) hb hn).imp fun _ h => star_comm h
/-- A new thing beside an old one. -/
theorem Nx.add (hA : Lcl A) (h : A P w) (hb : Bd P w) (hw : Below w.heap.size w w') (hc : ∃ P2 : Nat → Prop, C P2 w' ∧ ∀ i, P2 i → w.heap.size ≤ i ∧ i < w'.heap.size) : Nx (star A C) P w w' := by
  obtain ⟨P2, h2, h3⟩ := hc
  refine ⟨fun i => P i ∨ P2 i, ⟨P, P2, hA.out _ _ _ h (fun i hi => hw.block i (hb i hi)) hw.size, h2, fun i => Iff.rfl, fun i h5 h6 => ?_⟩, Kept.of_below hw, fun i hi => ?_⟩
  · have h7 := hb i h5
    have h8 := (h3 i h6).1
    omega
  · rcases hi with hi | hi
    · exact ⟨.inl hi, Nat.lt_of_lt_of_le (hb i hi) hw.size⟩
    · exact ⟨.inr (h3 i hi).1, (h3 i hi).2⟩
theorem Nx.drop (h : Nx (star A C) P w w') : Nx A P w w' := by
  obtain ⟨P', ⟨P1, P2, h1, h2, h3, h4⟩, h5, h6⟩ := h
  exact ⟨P1, h1, h5, fun i hi => h6 i ((h3 i).2 (.inl hi))⟩
end
/-- There is such a thing, in blocks from one on. -/
def Now (B : Nat) (A : Asr) (w : World) : Prop := ∃ P : Nat → Prop, A P w ∧ ∀ i, P i → B ≤ i ∧ i < w.heap.size
section
variable {B : Nat} {A A' C C' : Asr} {w w' : World}
theorem Now.next (h : Now B A w) (hB : B ≤ w.heap.size) (hn : ∀ P, A P w → Bd P w → Nx A' P w w') : Now B A' w' ∧ Below B w w' := by
  obtain ⟨P, h1, h2⟩ := h
  obtain ⟨P', h3, h4, h5⟩ := hn P h1 (fun i hi => (h2 i hi).2)
  refine ⟨⟨P', h3, fun i hi => ⟨?_, (h5 i hi).2⟩⟩, h4.below (fun i hi => (h2 i hi).1) hB⟩
  rcases (h5 i hi).1 with h6 | h6
  · exact (h2 i h6).1
  · exact Nat.le_trans hB h6
theorem Now.call {prog : Program} {F : FuncId} {args : Array Value} {R : Ending → Prop} (h : Now B A w) (hB : B ≤ w.heap.size) (hc : ∀ P, A P w → Bd P w → Calls prog F args w fun e w' => R e ∧ Nx A' P w w') : Calls prog F args w fun e w' => R e ∧ Now B A' w' ∧ Below B w w' := by
  have h0 := h
  obtain ⟨P, h1, h2⟩ := h
  refine (hc P h1 (fun i hi => (h2 i hi).2)).mono ?_
  rintro e w' ⟨h3, P', h4, h5, h6⟩
  refine ⟨h3, ⟨P', h4, fun i hi => ⟨?_, (h6 i hi).2⟩⟩, h5.below (fun i hi => (h2 i hi).1) hB⟩
  rcases (h6 i hi).1 with h7 | h7
  · exact (h2 i h7).1
  · exact Nat.le_trans hB h7
theorem Now.below (h : Now B A w) (hA : Lcl A) (hw : Below w.heap.size w w') : Now B A w' := by
  obtain ⟨P, h1, h2⟩ := h
  exact ⟨P, hA.out _ _ _ h1 (fun i hi => hw.block i (h2 i hi).2) hw.size, fun i hi => ⟨(h2 i hi).1, Nat.lt_of_lt_of_le (h2 i hi).2 hw.size⟩⟩
theorem Now.imp (h : Now B A w) (hi : ∀ P, A P w → A' P w) : Now B A' w := by
  obtain ⟨P, h1, h2⟩ := h
  exact ⟨P, hi P h1, h2⟩
theorem Now.get (h : Now B A w) : ∃ P, A P w ∧ Bd P w := by
  obtain ⟨P, h1, h2⟩ := h
  exact ⟨P, h1, fun i hi => (h2 i hi).2⟩
theorem Now.drop (h : Now B (star A C) w) : Now B A w := by
  obtain ⟨P, ⟨P1, P2, h1, -, h3, -⟩, h2⟩ := h
  exact ⟨P1, h1, fun i hi => h2 i ((h3 i).2 (.inl hi))⟩
end
section
variable {A A' C C' : Asr} {P : Nat → Prop} {w w' : World} {prog : Program} {F : FuncId} {args : Array Value} {R : Ending → Prop}
theorem call_left (hC : Lcl C) (h : star A C P w) (hb : Bd P w) (hc : ∀ P1, A P1 w → Bd P1 w → Calls prog F args w fun e w' => R e ∧ Nx A' P1 w w') : Calls prog F args w fun e w' => R e ∧ Nx (star A' C) P w w' := by
  have h0 := h
  obtain ⟨P1, P2, h1, h2, h3, h4⟩ := h
  have hb1 : Bd P1 w := fun i hi => hb i ((h3 i).2 (.inl hi))
  refine (hc P1 h1 hb1).mono ?_
  rintro e w' ⟨h5, h6⟩
  exact ⟨h5, Nx.left (A := fun Q u => A Q u ∧ Q = P1) hC ⟨P1, P2, ⟨h1, rfl⟩, h2, h3, h4⟩ hb (fun Q ⟨_, hQ⟩ _ => hQ ▸ h6)⟩
theorem call_right (hA : Lcl A) (h : star A C P w) (hb : Bd P w) (hc : ∀ P1, C P1 w → Bd P1 w → Calls prog F args w fun e w' => R e ∧ Nx C' P1 w w') : Calls prog F args w fun e w' => R e ∧ Nx (star A C') P w w' := by
  refine (call_left hA (star_comm h) hb hc).mono ?_
  rintro e w' ⟨h1, h2⟩
  exact ⟨h1, h2.imp fun _ h => star_comm h⟩
end
/-- A block of one's own. -/
def Bx (g : Nat) (e : TypeId) (xs : List Value) : Asr := fun P w => Bk w g e xs ∧ ∀ i, P i ↔ i = g
section
variable {A A' C C' : Asr} {P : Nat → Prop} {w u w' : World} {prog : Program} {F : FuncId} {args : Array Value} {R : Ending → Prop}
theorem bx_lcl (g : Nat) (e : TypeId) (xs : List Value) : Lcl (Bx g e xs) := ⟨fun _ _ _ ⟨h1, h2⟩ hk _ => ⟨(hk g ((h2 g).2 rfl)).trans h1, h2⟩⟩
theorem Nx.comp {P' : Nat → Prop} (h2 : Kept P w u) (h3 : ∀ i, P' i → (P i ∨ w.heap.size ≤ i) ∧ i < u.heap.size) (h : Nx A' P' u w') : Nx A' P w w' := by
  obtain ⟨P2, h4, h5, h6⟩ := h
  refine ⟨P2, h4, h2.trans h5 (fun i hi => (h3 i hi).1), fun i hi => ⟨?_, (h6 i hi).2⟩⟩
  rcases (h6 i hi).1 with h7 | h7
  · exact (h3 i h7).1
  · exact .inr (Nat.le_trans h2.size h7)
theorem Nx.call (h : Nx A P w u) (hc : ∀ P', A P' u → Bd P' u → Calls prog F args u fun e w' => R e ∧ Nx A' P' u w') : Calls prog F args u fun e w' => R e ∧ Nx A' P w w' := by
  obtain ⟨P', h1, h2, h3⟩ := h
  refine (hc P' h1 (fun i hi => (h3 i hi).2)).mono ?_
  rintro e w' ⟨h4, h5⟩
  exact ⟨h4, Nx.comp h2 h3 h5⟩
theorem Nx.step (h : Nx A P w u) (hc : ∀ P', A P' u → Bd P' u → Nx A' P' u w') : Nx A' P w w' := by
  obtain ⟨P', h1, h2, h3⟩ := h
  exact Nx.comp h2 h3 (hc P' h1 (fun i hi => (h3 i hi).2))
theorem Nx.later (h : Nx A P w u) (hA : Lcl A) (hb : Below u.heap.size u w') : Nx A P w w' := h.step (fun _ h1 h2 => Nx.below h1 hA h2 hb)
theorem Nx.get (h : Nx A P w u) : ∃ P', A P' u ∧ Bd P' u := by
  obtain ⟨P', h1, -, h3⟩ := h
  exact ⟨P', h1, fun i hi => (h3 i hi).2⟩
/-- A new variable beside. -/
theorem Nx.box (h : Nx A P w u) (hA : Lcl A) (xs : List Value) (e : TypeId) : Nx (star A (Bx u.heap.size e xs)) P w (u.alloc (.cells xs.toArray e)) :=
  h.step (fun P' h1 h2 => Nx.add hA h1 h2 ((Below.refl _ u).alloc (Nat.le_refl _) _) ⟨(· = u.heap.size), ⟨Bk.new u e xs, fun i => Iff.rfl⟩, fun i hi => by
    have hi : i = u.heap.size := hi
    subst hi
    refine ⟨Nat.le_refl _, ?_⟩
    simp⟩)
theorem Nx.cell {g : Nat} {e : TypeId} {xs : List Value} (h : Nx (star A (Bx g e xs)) P w u) : Bk u g e xs := by
  obtain ⟨P', ⟨P1, P2, -, h2, -, -⟩, -⟩ := h
  exact h2.1
theorem bx_set {g : Nat} {e : TypeId} {xs : List Value} (h : Bx g e xs P w) (hb : Bd P w) (i : Nat) (v : Value) : Nx (Bx g e (xs.set i v)) P w (w.setCell ⟨g, i, none⟩ v) := by
  obtain ⟨h1, h2⟩ := h
  have hs : (w.setCell ⟨g, i, none⟩ v).heap.size = w.heap.size := by simp
  refine ⟨P, ⟨h1.set i v, h2⟩, Kept.of_grown (only_set (World.grownBy.refl w (some g)) i v) (fun k hk => by cases hk; exact (h2 _).2 rfl), fun k hk => ⟨.inl hk, by rw [hs]; exact hb k hk⟩⟩
theorem Nx.set {g : Nat} {e : TypeId} {xs : List Value} (h : Nx (star A (Bx g e xs)) P w u) (hA : Lcl A) (i : Nat) (v : Value) : Nx (star A (Bx g e (xs.set i v))) P w (u.setCell ⟨g, i, none⟩ v) :=
  h.step (fun _ h1 h2 => Nx.right hA h1 h2 (fun _ h3 h4 => bx_set h3 h4 i v))
end
end Go.Proofs.Ytnahccdjeilboaa.Apart
