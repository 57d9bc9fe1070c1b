/-
  Tags on paper; a set of labels, as a map that is seen from outside.
-/
import Derived.Test.YtnkpmmijdkcdjaaN
import Derived.Maps.RangeWalk
import Derived.Maps.OwnOps
import Derived.OpenShut
namespace Go.Proofs.Ytnkpmmijdkcdjaa
open Go.RowKit Go.Maps Go.ChangeShapes Go.WideShapes

section
variable {α β : Type}
theorem puts_map (f : α → β) (l : List (Nat × α)) : ∀ S : List α, (puts S l).map f = puts (S.map f) (l.map fun p => (p.1, f p.2)) := by
  induction l with
  | nil => exact fun _ => rfl
  | cons p l ih =>
    intro S
    rw [List.map_cons, puts_cons, puts_cons, ih, List.map_set]
theorem take_puts (n : Nat) (l : List (Nat × α)) : ∀ S : List α, (puts S l).take n = puts (S.take n) l := by
  induction l with
  | nil => exact fun _ => rfl
  | cons p l ih =>
    intro S
    rw [puts_cons, puts_cons, ih, List.take_set]
theorem puts_length (l : List (Nat × α)) (S : List α) : (puts S l).length = S.length := length_puts _ _
end

theorem storedTo_mem {l : List (Nat × Sx)} {c : Sx} : ∀ {n : Nat}, c ∈ storedTo l n → c.t = 0 ∨ ∃ p ∈ l, p.2 = c
  | 0, h => by cases h
  | n + 1, h => by
    rw [storedTo, List.mem_append, List.mem_cons, List.mem_map] at h
    rcases h with h | rfl | ⟨p, hp, rfl⟩
    · exact storedTo_mem h
    · exact .inl rfl
    · exact .inr ⟨p, List.mem_of_mem_drop (List.mem_of_mem_take hp), rfl⟩
/-- What tags there are behind a commit. -/
theorem after_tags {S : List Sx} {q : Nat} {l : List (Nat × Sx)} {c : Sx} (h : c ∈ after S q l) : c.t = 0 ∨ c ∈ S ∨ ∃ p ∈ l, p.2 = c := by
  unfold after at h
  rcases List.mem_or_eq_of_mem_set h with h | rfl
  · rcases puts_mem h with h | h
    · rcases List.mem_or_eq_of_mem_set h with h | rfl
      · rcases puts_mem h with h | ⟨p, hp, rfl⟩
        · exact .inr (.inl h)
        · rcases storedTo_mem (placed_mem hp).2.2 with h | h
          · exact .inl h
          · exact .inr (.inr h)
      · exact .inl rfl
    · exact .inr (.inr h)
  · exact .inl rfl

/-- Tags, as they are put. -/
def tagsP (sets : List (Int × Nat)) : List (Nat × Nat) := sets.map fun s => (s.1.toNat, s.2)
theorem tags_after {S : List Sx} (hS : S.length = 60) (q : Nat) {sets : List (Int × Nat)} (hv : ∀ s ∈ sets, s.2 < 256) :
    ((after S q (natP sets)).take 12).map (·.t) = puts ((S.take 12).map (·.t)) (tagsP sets) := by
  rw [take_after S hS, take_puts, puts_map]
  congr 1
  rw [natP, tagsP, List.map_map]
  apply List.map_congr_left
  intro s hs
  show (s.1.toNat, (cx s.2).t) = _
  rw [cx_tag _ (hv s hs)]
theorem tagsP_snoc {sets : List (Int × Nat)} {j : Nat} {s : Int × Nat} (h : sets[j]? = some s) (T : List Nat) : puts T (tagsP (sets.take (j + 1))) = (puts T (tagsP (sets.take j))).set s.1.toNat s.2 := by
  obtain ⟨h1, h2⟩ := List.getElem?_eq_some_iff.1 h
  rw [List.take_succ_eq_append_getElem h1, h2, tagsP, List.map_append, puts_append]
  rfl

/-! The map. -/
def keyL (s : Nat) : Lit := .int .u16 (s : Int)
theorem keyL_is (s : Nat) : WideAt.IsKeyLit (keyL s) := trivial
theorem keyL_ne {s t : Nat} (h : s ≠ t) : keyL s ≠ keyL t := fun e => h (by
  injection e with _ e
  exact Int.ofNat_inj.1 e)
theorem keyT : Keyed Try.prog 47 := int_keyed Try.underlying47
theorem keyT_of {s : Nat} (h : s < 65536) : keyOf Try.prog 47 (.int .u16 (s : Int)) = some (keyL s) := keyOf_int_mk Try.underlying47 (WalkArith.wf_u16 ⟨by omega, by omega⟩)
/-- A map in a block: is it so at a key; so many keys at most. -/
def MapIs (w : World) (b : Nat) (at_ : Nat → Bool) (m : Nat) : Prop :=
  ∃ D : DataW Unit, w.ownsMap Try.prog 47 (plainElem Try.prog 4) b m D ∧ ∀ s, D.atKey (keyL s) (.lit (.bool false)) = .lit (.bool (at_ s))
section
variable {w w' : World} {b m : Nat} {at_ : Nat → Bool}
theorem MapIs.lt (h : MapIs w b at_ m) : b < w.heap.size := by
  obtain ⟨D, h1, _⟩ := h
  exact h1.lt
theorem MapIs.keep (h : MapIs w b at_ m) (hb : w'.heap[b]? = w.heap[b]?) : MapIs w' b at_ m := by
  obtain ⟨D, ⟨es, clock, h1, h2⟩, h3⟩ := h
  exact ⟨D, ⟨es, clock, hb.trans h1, h2⟩, h3⟩
theorem MapIs.below (h : MapIs w b at_ m) (hb : Below w.heap.size w w') : MapIs w' b at_ m := h.keep (hb.block b h.lt)
theorem MapIs.other (h : MapIs w b at_ m) (he : Else w w') : MapIs w' b at_ m := by
  obtain ⟨D, ⟨es, clock, h1, h2⟩, h3⟩ := h
  exact ⟨D, ⟨es, clock, he b _ h1 (fun c e fr h => by cases h), h2⟩, h3⟩
theorem MapIs.made (w : World) : MapIs (w.alloc (.map #[] 0)) w.heap.size (fun _ => false) 0 :=
  ⟨.map [], World.ownsMap_made w Try.prog 47 _, fun _ => rfl⟩
set_option maxRecDepth 100000 in
theorem MapIs.look (h : MapIs w b at_ m) {s : Nat} (hs : s < 65536) : (Instr.lookup 55 (.map (some b)) (.int .u16 (s : Int)) false).run Try.prog w = .ok (.bool (at_ s)) w := by
  obtain ⟨D, h1, h2⟩ := h
  obtain ⟨v, ps, hrun, hv⟩ := h1.lookup keyT Try.underlying55 (z := .bool false) (by kernel_rfl) (plainElem_bool Try.underlying4 false) (keyT_of hs)
  rw [h2 s] at hv
  have hb : v = .bool (at_ s) := by
    unfold plainElem at hv
    rw [Try.underlying4] at hv
    cases v <;> simp at hv
    rw [hv.1]
  rw [hb] at hrun
  exact hrun
set_option maxRecDepth 100000 in
theorem MapIs.put (h : MapIs w b at_ m) (hm : m < maxLen) {s : Nat} (hs : s < 65536) :
    ∃ w', (Instr.mapUpdate 55 (.map (some b)) (.int .u16 (s : Int)) (.bool true)).run Try.prog w = .ok () w' ∧ MapIs w' b (fun k => k == s || at_ k) (m + 1) ∧ w.grownBy w' (some b) := by
  obtain ⟨D, h1, h2⟩ := h
  obtain ⟨w', hrun, h5, h6⟩ := h1.update keyT Try.underlying55 hm (keyT_of hs) (plainElem_bool Try.underlying4 true)
  have hT := h1.tidy keyT
  refine ⟨w', hrun, ⟨_, h5, fun k => ?_⟩, h6⟩
  by_cases hk : k = s
  · subst hk; simp [atKey_put_same hT.isMap (keyL_is k)]
  · simp [hk, atKey_put_other (keyL_ne hk), h2]
theorem MapIs.as {at2 : Nat → Bool} {m2 : Nat} (h : MapIs w b at_ m) (h1 : ∀ s, at_ s = at2 s) (h2 : m ≤ m2) : MapIs w b at2 m2 := by
  obtain rfl : at_ = at2 := funext h1
  obtain ⟨D, h3, h4⟩ := h
  exact ⟨D, h3.mono h2, h4⟩
/-- A disk and its journal lie as they lay, where all blocks of their types do. -/
theorem Ours.keep {B bj bd start n q : Nat} {k : Dk Sx} (h : Ours B w bj bd start n q k) (hk : ∀ (t : Nat) c e fr, w.heap[t]? = some (Obj.cells c e fr) → (e = 65 ∨ e = 79 ∨ e = 95 ∨ e = 68) → w'.heap[t]? = w.heap[t]?) : Ours B w' bj bd start n q k := by
  obtain ⟨S, h1, h2, h3, h4, h5⟩ := h
  refine ⟨S, h1.keep fun i hi => ?_, h2, (hk bj _ _ _ h3 (.inr (.inr (.inr rfl)))).trans h3, h4, h5⟩
  obtain ⟨c, e, g1, g2⟩ := foot_type h1 hi
  exact hk i c e _ g1 (by rcases g2 with h | h | h <;> simp [h])
theorem Ours.map {B bj bd start n q : Nat} {k : Dk Sx} (h : Ours B w bj bd start n q k) (hM : MapIs w b at_ m) (hg : w.grownBy w' (some b)) : Ours B w' bj bd start n q k := by
  obtain ⟨D, ⟨es, clock, h1, h2⟩, h3⟩ := hM
  refine h.keep fun t c e fr ht _ => hg.block t (Array.getElem?_eq_some_iff.1 ht).1 fun e => ?_
  injection e with e
  subst e
  rw [h1] at ht
  cases ht
theorem Ours.far {B bj bd start n q g e : Nat} {cs : List Value} {k : Dk Sx} (h : Ours B w bj bd start n q k) (hB : Bk w g e cs) (he : e ≠ 65 ∧ e ≠ 79 ∧ e ≠ 95 ∧ e ≠ 68) (i : Nat) (u : Value) : Ours B (w.setCell ⟨g, i, none⟩ u) bj bd start n q k := by
  refine h.keep fun t c e' fr ht h' => Below.heap_setCell w ⟨g, i, none⟩ u t fun et => ?_
  have et' : t = g := et
  subst et'
  rw [show w.heap[t]? = _ from hB] at ht
  cases ht
  obtain ⟨n1, n2, n3, n4⟩ := he
  rcases h' with h | h | h | h
  · exact n1 h
  · exact n2 h
  · exact n3 h
  · exact n4 h
end
end Go.Proofs.Ytnkpmmijdkcdjaa
