/-
  A disk in memory and on paper: rows of elements of many cells, what a store and a new block make of them; the disk's state, and what each of its calls makes of it.
-/
import Derived.Test.YtnahccdjeilboaaL
import Derived.Deep.MidRow
import Derived.Deep.AppendLies
namespace Go.Proofs.Ytnahccdjeilboaa
open Go.RowKit

/-! Elements of one length, one behind the other. -/
theorem flat_length {size : Nat} : ∀ {L : List (List Value)}, (∀ c ∈ L, c.length = size) → L.flatten.length = L.length * size
  | [], _ => by simp
  | c :: r, h => by
    have h1 := h c (by simp)
    have h2 := flat_length (L := r) fun c hc => h c (by simp [hc])
    simp only [List.flatten_cons, List.length_append, List.length_cons, h1, h2, Nat.add_mul]
    omega

theorem flat_get {size : Nat} : ∀ {L : List (List Value)}, (∀ c ∈ L, c.length = size) → ∀ {i j : Nat} {c : List Value} {u : Value}, L[i]? = some c → c[j]? = some u → L.flatten[i * size + j]? = some u
  | [], _, i, j, c, u, hi, _ => by simp at hi
  | d :: r, h, i, j, c, u, hi, hj => by
    have h1 := h d (by simp)
    cases i with
    | zero =>
      simp only [List.getElem?_cons_zero, Option.some.injEq] at hi
      subst hi
      have hlt : j < d.length := (List.getElem?_eq_some_iff.1 hj).1
      rw [Nat.zero_mul, Nat.zero_add, List.flatten_cons, List.getElem?_append_left hlt, hj]
    | succ i =>
      simp only [List.getElem?_cons_succ] at hi
      have := flat_get (L := r) (fun c hc => h c (by simp [hc])) hi hj
      rw [List.flatten_cons, List.getElem?_append_right (by rw [h1, Nat.add_mul]; omega), h1]
      have e : (i + 1) * size + j - size = i * size + j := by rw [Nat.add_mul]; omega
      rw [e, this]

theorem flat_of {size : Nat} (hs : 0 < size) : ∀ {L : List (List Value)}, (∀ c ∈ L, c.length = size) → ∀ {k : Nat} {u : Value}, L.flatten[k]? = some u → ∃ i j c, k = i * size + j ∧ j < size ∧ L[i]? = some c ∧ c[j]? = some u
  | [], _, k, u, hk => by simp at hk
  | d :: r, h, k, u, hk => by
    have h1 := h d (by simp)
    rw [List.flatten_cons] at hk
    rcases Nat.lt_or_ge k d.length with hlt | hge
    · rw [List.getElem?_append_left hlt] at hk
      exact ⟨0, k, d, by omega, by omega, rfl, hk⟩
    · rw [List.getElem?_append_right hge] at hk
      obtain ⟨i, j, c, e, hj, hi, hc⟩ := flat_of hs (L := r) (fun c hc => h c (by simp [hc])) hk
      exact ⟨i + 1, j, c, by rw [Nat.add_mul]; omega, hj, by simpa using hi, hc⟩

/-! A row of elements in a block. -/
structure Row (w : World) (g : Nat) (e : TypeId) (size cap : Nat) (L : List (List Value)) : Prop where
  blk : ∃ cur : Array Value, w.heap[g]? = some (.cells cur e (0, 0)) ∧ cur.size = cap * size
  le : L.length ≤ cap
  max : cap ≤ maxLen
  elem : ∀ i c, L[i]? = some c → c.length = size ∧ (∀ u ∈ c, u.oneCell' = true) ∧ w.rangeAt g (i * size) c

section
variable {w w' : World} {g cap size : Nat} {e : TypeId} {L : List (List Value)}

theorem Row.lt (h : Row w g e size cap L) : g < w.heap.size := by
  obtain ⟨cur, hc, _⟩ := h.blk
  rcases Nat.lt_or_ge g w.heap.size with hlt | hge
  · exact hlt
  · rw [Array.getElem?_eq_none hge] at hc; cases hc

theorem range_of_block {b o : Nat} {cs : List Value} (h : w.rangeAt b o cs) (hb : w'.heap[b]? = w.heap[b]?) : w'.rangeAt b o cs := fun j v hv =>
  (World.cell?_of_block (a := ⟨b, o + j, none⟩) hb).trans (h j v hv)

theorem Row.keep (h : Row w g e size cap L) (hb : w'.heap[g]? = w.heap[g]?) : Row w' g e size cap L := by
  obtain ⟨⟨cur, h1, h2⟩, h3, h4, h5⟩ := h
  exact ⟨⟨cur, hb.trans h1, h2⟩, h3, h4, fun i c hc => ⟨(h5 i c hc).1, (h5 i c hc).2.1, range_of_block (h5 i c hc).2.2 hb⟩⟩

theorem Row.lens (h : Row w g e size cap L) : ∀ c ∈ L, c.length = size := fun c hc => by
  obtain ⟨i, hi⟩ := List.mem_iff_getElem?.1 hc
  exact (h.elem i c hi).1

theorem Row.there (h : Row w g e size cap L) {i : Nat} (hi : i < L.length) : w.there g (i * size) size := fun j hj => by
  obtain ⟨cur, h1, h2⟩ := h.blk
  obtain ⟨hl, _, hr⟩ := h.elem i _ (List.getElem?_eq_getElem hi)
  have hj' : j < (L[i]).length := by omega
  refine ⟨by rw [hr j _ (List.getElem?_eq_getElem hj')]; rfl, ?_⟩
  simp [World.frozen?, h1]

theorem setCells_block (g : Nat) (vs : List Value) : ∀ (o : Nat) (w : World) (cur : Array Value) (e : TypeId), w.heap[g]? = some (.cells cur e (0, 0)) → ∃ cur' : Array Value, (w.setCells g o vs).heap[g]? = some (.cells cur' e (0, 0)) ∧ cur'.size = cur.size := by
  induction vs with
  | nil => exact fun o w cur e h => ⟨cur, h, rfl⟩
  | cons v r ih =>
    intro o w cur e h
    obtain ⟨c', h1, h2⟩ := ih (o + 1) (w.setCell ⟨g, o, none⟩ v) (cur.setIfInBounds o v) e (heap_setCell_same w g o cur e v h)
    exact ⟨c', h1, by simpa using h2⟩

theorem setCells_other (g : Nat) (vs : List Value) : ∀ (o : Nat) (w : World) (k : Nat), k ≠ g → (w.setCells g o vs).heap[k]? = w.heap[k]? := by
  induction vs with
  | nil => exact fun o w k h => rfl
  | cons v r ih => exact fun o w k h => (ih (o + 1) _ k h).trans (Below.heap_setCell w _ v k h)

theorem setCells_size (g : Nat) (vs : List Value) : ∀ (o : Nat) (w : World), (w.setCells g o vs).heap.size = w.heap.size := by
  induction vs with
  | nil => exact fun o w => rfl
  | cons v r ih => exact fun o w => (ih (o + 1) _).trans (by simp [World.setCell])

theorem setCells_rest (g : Nat) (vs : List Value) : ∀ (o : Nat) (w : World), (w.setCells g o vs).os = w.os ∧ (w.setCells g o vs).tape = w.tape ∧ (w.setCells g o vs).output = w.output := by
  induction vs with
  | nil => exact fun o w => ⟨rfl, rfl, rfl⟩
  | cons v r ih => exact fun o w => ih (o + 1) (w.setCell ⟨g, o, none⟩ v)

theorem setCells_grown (w : World) (g o : Nat) (vs : List Value) : w.grownBy (w.setCells g o vs) (some g) :=
  ⟨(setCells_rest g vs o w).1, (setCells_rest g vs o w).2.1, (setCells_rest g vs o w).2.2, by rw [setCells_size]; exact Nat.le_refl _, fun k _ hne => setCells_other g vs o w k fun h => hne (by rw [h])⟩

/-- An element is another one. -/
theorem Row.set (h : Row w g e size cap L) {i : Nat} (hi : i < L.length) {c : List Value} (hc : c.length = size) (h1 : ∀ u ∈ c, u.oneCell' = true) : Row (w.setCells g (i * size) c) g e size cap (L.set i c) := by
  have ht := h.there hi
  obtain ⟨⟨cur, hb, hs⟩, h3, h4, h5⟩ := h
  obtain ⟨cur', hb', hs'⟩ := setCells_block g c (i * size) w cur e hb
  refine ⟨⟨cur', hb', by omega⟩, by simpa using h3, h4, fun k d hd => ?_⟩
  rw [List.getElem?_set] at hd
  by_cases hik : i = k
  · subst hik
    rw [if_pos rfl, if_pos hi] at hd
    obtain rfl : c = d := by simpa using hd
    exact ⟨hc, h1, World.rangeAt_setCells_same _ _ _ _ (by rw [hc]; exact ht)⟩
  · rw [if_neg hik] at hd
    obtain ⟨a1, a2, a3⟩ := h5 k d hd
    refine ⟨a1, a2, World.rangeAt_setCells_apart a3 _ _ _ (.inr ?_)⟩
    rw [a1, hc]
    rcases Nat.lt_or_ge k i with hlt | hge
    · left
      have : (k + 1) * size ≤ i * size := Nat.mul_le_mul_right _ hlt
      rw [Nat.add_mul] at this; omega
    · right
      have : (i + 1) * size ≤ k * size := Nat.mul_le_mul_right _ (by omega)
      rw [Nat.add_mul] at this; omega

/-- As append's laws see it. -/
theorem Row.owns (h : Row w g e size cap L) : w.ownsRow 0 e size (.slice (some ⟨g, 0, none⟩) L.length cap) L.length L.flatten := by
  have hl := flat_length h.lens
  obtain ⟨⟨cur, hb, hs⟩, h3, h4, h5⟩ := h
  refine ⟨hl, .inr ⟨g, cap, cur, rfl, Nat.zero_le _, hb, h3, h4, hs, ?_⟩⟩
  have hle : L.length * size ≤ cap * size := Nat.mul_le_mul_right _ h3
  apply List.ext_getElem?
  intro k
  rcases Nat.lt_or_ge k (L.length * size) with hk | hk
  · have hs0 : 0 < size := by
      rcases Nat.eq_zero_or_pos size with h0 | h0
      · rw [h0] at hk; simp at hk
      · exact h0
    have hk' : k < L.flatten.length := by omega
    obtain ⟨i, j, c, e1, hj, hi, hc⟩ := flat_of hs0 (fun c hc => by
      obtain ⟨i, hi⟩ := List.mem_iff_getElem?.1 hc
      exact (h5 i c hi).1) (List.getElem?_eq_getElem hk')
    rw [List.getElem?_take, if_pos hk, List.getElem?_eq_getElem hk', ← (h5 i c hi).2.2 j _ hc, e1, cell_of_row w g _ cur e (0, 0) hb]
    simp
  · rw [List.getElem?_eq_none (by simp; omega), List.getElem?_eq_none (by omega)]

theorem Row.of_owns {n : Nat} {base : Nat} (h : w.ownsRow base e size (.slice (some ⟨g, 0, none⟩) n cap) n L.flatten) (hn : n = L.length) (hl : ∀ c ∈ L, c.length = size) (h1 : ∀ c ∈ L, ∀ u ∈ c, u.oneCell' = true) : Row w g e size cap L := by
  subst hn
  have hat := fun j hj => World.ownsRow.cellAt h j hj
  rcases h.2 with ⟨hv, _⟩ | ⟨g', cap', cur, hv, _, hb, hc1, hc2, hc3, hc4⟩
  · cases hv
  · cases hv
    refine ⟨⟨cur, hb, hc3⟩, hc1, hc2, fun i c hi => ?_⟩
    have hm := List.mem_iff_getElem?.2 ⟨i, hi⟩
    refine ⟨hl c hm, h1 c hm, fun j u hu => ?_⟩
    have hi' : i < L.length := (List.getElem?_eq_some_iff.1 hi).1
    have hj' : j < c.length := (List.getElem?_eq_some_iff.1 hu).1
    have hcl := hl c hm
    have : (i + 1) * size ≤ L.length * size := Nat.mul_le_mul_right _ hi'
    rw [hat _ (by rw [Nat.add_mul] at this; omega), flat_get hl hi hu]

theorem Row.cells (h : Row w g e size cap L) (hs : 0 < size) : ∀ j u, L.flatten[j]? = some u → w.cell? ((⟨g, 0, none⟩ : Addr).add j) = some u := fun j u hu => by
  obtain ⟨i, k, c, rfl, hk, hi, hc⟩ := flat_of hs h.lens hu
  rw [Addr.add_mid, Nat.zero_add]
  exact (h.elem i c hi).2.2 k u hc
end

theorem mem_flat_one {L : List (List Value)} (h : ∀ c ∈ L, ∀ u ∈ c, u.oneCell' = true) : ∀ u ∈ L.flatten, u.oneCell' = true := fun u hu => by
  obtain ⟨c, hc, hu⟩ := List.mem_flatten.1 hu
  exact h c hc u hu

theorem Row.ones {w : World} {g cap size : Nat} {e : TypeId} {L : List (List Value)} (h : Row w g e size cap L) : ∀ c ∈ L, ∀ u ∈ c, u.oneCell' = true := fun c hc => by
  obtain ⟨i, hi⟩ := List.mem_iff_getElem?.1 hc
  exact (h.elem i c hi).2.1

/-! The disk on paper. -/
structure Dk (α : Type) where
  safe : List α
  un : List (Nat × α)
  dead : Bool
  cut : Bool
  left : Int
  done : Int

/-- Elements are put, one behind the other. -/
def puts {α : Type} (L : List α) (l : List (Nat × α)) : List α := l.foldl (fun L p => L.set p.1 p.2) L

section
variable {α : Type}
theorem puts_nil (L : List α) : puts L [] = L := rfl
theorem puts_cons (L : List α) (p : Nat × α) (l : List (Nat × α)) : puts L (p :: l) = puts (L.set p.1 p.2) l := rfl
theorem puts_append (L : List α) (l m : List (Nat × α)) : puts L (l ++ m) = puts (puts L l) m := List.foldl_append ..
theorem length_puts (L : List α) (l : List (Nat × α)) : (puts L l).length = L.length := by
  induction l generalizing L with
  | nil => rfl
  | cons p l ih => rw [puts_cons, ih, List.length_set]

/-- The sectors as they were written last. -/
def Dk.now (k : Dk α) : List α := puts k.safe k.un
/-- Is there such a sector? -/
def Dk.has (k : Dk α) (s : Int) : Bool := decide (0 ≤ s) && decide (s < (k.safe.length : Int))
/-- Can an operation be done? -/
def Dk.off (k : Dk α) : Bool := k.dead || (k.cut && decide (k.left = 0))
/-- It counts. -/
def Dk.op (k : Dk α) : Dk α := if k.off then { k with dead := true } else { k with left := if k.cut then wrap64 (k.left - 1) else k.left, done := wrap64 (k.done + 1) }
/-- Which writes are there, the first one's number being i. -/
def kept (there : Nat) : Nat → List (Nat × α) → List (Nat × α)
  | _, [] => []
  | i, p :: l => if there.testBit (i % 64) then p :: kept there (i + 1) l else kept there (i + 1) l
def Dk.settle (there : Nat) (k : Dk α) : Dk α := { k with safe := puts k.safe (kept there 0 k.un), un := [] }
def Dk.wrote (k : Dk α) (s : Nat) (c : α) : Dk α := { k.op with un := k.un ++ [(s, c)] }
def Dk.flush (k : Dk α) : Dk α := if k.off then k.op else { k.op with safe := k.now, un := [] }
def Dk.cutAt (k : Dk α) (after : Int) : Dk α := if k.dead then k else { k with cut := decide (0 ≤ after), left := after }
def Dk.crash (k : Dk α) (there : Nat) : Dk α := { k.settle there with dead := false, cut := false }
def Dk.fresh (n : Nat) (z : α) : Dk α := ⟨List.replicate n z, [], false, false, 0, 0⟩

theorem Dk.op_safe (k : Dk α) : k.op.safe = k.safe := by unfold Dk.op; split <;> rfl
theorem Dk.op_un (k : Dk α) : k.op.un = k.un := by unfold Dk.op; split <;> rfl
theorem Dk.op_now (k : Dk α) : k.op.now = k.now := by simp only [Dk.now, Dk.op_safe, Dk.op_un]
end

/-! The disk in memory. -/
/-- An element is 65 cells. -/
structure Enc {α : Type} (f : α → List Value) : Prop where
  len : ∀ a, (f a).length = 65
  one : ∀ a, ∀ u ∈ f a, u.oneCell' = true

/-- A write that is not safe. -/
def ent {α : Type} (f : α → List Value) (p : Nat × α) : List Value := .int .i64 (p.1 : Int) :: f p.2

/-- The blocks that it has. -/
def foot (b bn bs : Nat) (vu : Value) (i : Nat) : Prop := i = b ∨ i = bn ∨ i = bs ∨ vu.ownBlock = some i

theorem Row.elemType {w : World} {g cap size : Nat} {e : TypeId} {L : List (List Value)} (h : Row w g e size cap L) : ∃ c, w.heap[g]? = some (.cells c e (0, 0)) := by
  obtain ⟨cur, h1, _⟩ := h.blk
  exact ⟨cur, h1⟩

theorem type_ne {w : World} {a b : Nat} {c d : Array Value} {e g : TypeId} (h1 : w.heap[a]? = some (.cells c e (0, 0))) (h2 : w.heap[b]? = some (.cells d g (0, 0))) (he : e ≠ g) : a ≠ b := by
  rintro rfl
  rw [h1] at h2
  cases h2
  exact he rfl

section
variable {α : Type} {f : α → List Value} {w w' : World} {b bn bs cn cs : Nat} {vu : Value} {now safe : List α} {un : List (Nat × α)} {dead cut : Bool} {left done : Int}

end

/-- But for those blocks all is as it was. -/
structure Kept (S : Nat → Prop) (w w' : World) : Prop where
  os : w'.os = w.os
  tape : w'.tape = w.tape
  output : w'.output = w.output
  size : w.heap.size ≤ w'.heap.size
  block : ∀ k, k < w.heap.size → ¬ S k → w'.heap[k]? = w.heap[k]?

section
variable {S T : Nat → Prop} {w w1 w2 : World}
theorem Kept.refl (S : Nat → Prop) (w : World) : Kept S w w := ⟨rfl, rfl, rfl, Nat.le_refl _, fun _ _ _ => rfl⟩
theorem Kept.drew (h : Kept S w w1) : Kept S w w1.drew := ⟨h.os, h.tape, h.output, h.size, h.block⟩
theorem Kept.of_grown {row : Option Nat} (h : w.grownBy w1 row) (hr : ∀ k, row = some k → S k) : Kept S w w1 := ⟨h.os, h.tape, h.output, h.size, fun k hk hs => h.block k hk fun e => hs (hr k e.symm)⟩
theorem Kept.of_below (h : Below w.heap.size w w1) : Kept S w w1 := ⟨h.os, h.tape, h.output, h.size, fun k hk _ => h.block k hk⟩
/-- One step behind the other: the second one may change what the first one may, and what is new. -/
theorem Kept.trans (h : Kept S w w1) (k : Kept T w1 w2) (hT : ∀ i, T i → S i ∨ w.heap.size ≤ i) : Kept S w w2 :=
  ⟨k.os.trans h.os, k.tape.trans h.tape, k.output.trans h.output, Nat.le_trans h.size k.size, fun i hi hs => (k.block i (Nat.lt_of_lt_of_le hi h.size) fun ht => by
    rcases hT i ht with h1 | h1
    · exact hs h1
    · omega).trans (h.block i hi hs)⟩
theorem Kept.below {B : Nat} (h : Kept S w w1) (hS : ∀ i, S i → B ≤ i) (hB : B ≤ w.heap.size) : Below B w w1 :=
  ⟨h.os, h.tape, h.output, h.size, fun k hk => h.block k (by omega) fun hs => by have := hS k hs; omega⟩
end

end Go.Proofs.Ytnahccdjeilboaa
