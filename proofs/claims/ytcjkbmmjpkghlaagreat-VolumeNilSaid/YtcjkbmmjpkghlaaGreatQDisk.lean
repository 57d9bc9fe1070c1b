/-
  A disk in memory and on paper: rows of elements of many cells, what a store and a new block make of them; the disk's state, and what each of its calls makes of it.
-/
import Derived.Test.YtcjkbmmjpkghlaaGreatQF
import Derived.Deep.MidRow
import Derived.Deep.AppendLies
import Derived.Test.YtcjkbmmjpkghlaaGreatRows
import Derived.WalkKit
import Derived.WalkSpells
import Derived.BigQuiet
import Derived.Deep.QuietTactic
import Derived.Lib.Hide
import Derived.Deep.RegionHeld3
import Derived.Deep.WholeRow
import Derived.Deep.DrawnRows
import Derived.RegionTactic
import Derived.BigRegion
namespace Go.Proofs.YtcjkbmmjpkghlaaGreat
open Go.RowKit

/-! Elements of one length, one behind the other. -/
theorem flat_length {size : Nat} : ∀ {L : List (List Value)}, (∀ c ∈ L, c.length = size) → L.flatten.length = L.length * size
  | [], _ => by simp
  | c :: r, h => by
    have h1 := h c (by simp)
    have h2 := flat_length (L := r) fun c hc => h c (by simp [hc])
    simp only [List.flatten_cons, List.length_append, List.length_cons, h1, h2, Nat.add_mul]
    omega

theorem flat_get {size : Nat} : ∀ {L : List (List Value)}, (∀ c ∈ L, c.length = size) → ∀ {i j : Nat} {c : List Value} {u : Value}, L[i]? = some c → c[j]? = some u → L.flatten[i * size + j]? = some u
  | [], _, i, j, c, u, hi, _ => by simp at hi
  | d :: r, h, i, j, c, u, hi, hj => by
    have h1 := h d (by simp)
    cases i with
    | zero =>
      simp only [List.getElem?_cons_zero, Option.some.injEq] at hi
      subst hi
      have hlt : j < d.length := (List.getElem?_eq_some_iff.1 hj).1
      rw [Nat.zero_mul, Nat.zero_add, List.flatten_cons, List.getElem?_append_left hlt, hj]
    | succ i =>
      simp only [List.getElem?_cons_succ] at hi
      have := flat_get (L := r) (fun c hc => h c (by simp [hc])) hi hj
      rw [List.flatten_cons, List.getElem?_append_right (by rw [h1, Nat.add_mul]; omega), h1]
      have e : (i + 1) * size + j - size = i * size + j := by rw [Nat.add_mul]; omega
      rw [e, this]

theorem flat_of {size : Nat} (hs : 0 < size) : ∀ {L : List (List Value)}, (∀ c ∈ L, c.length = size) → ∀ {k : Nat} {u : Value}, L.flatten[k]? = some u → ∃ i j c, k = i * size + j ∧ j < size ∧ L[i]? = some c ∧ c[j]? = some u
  | [], _, k, u, hk => by simp at hk
  | d :: r, h, k, u, hk => by
    have h1 := h d (by simp)
    rw [List.flatten_cons] at hk
    rcases Nat.lt_or_ge k d.length with hlt | hge
    · rw [List.getElem?_append_left hlt] at hk
      exact ⟨0, k, d, by omega, by omega, rfl, hk⟩
    · rw [List.getElem?_append_right hge] at hk
      obtain ⟨i, j, c, e, hj, hi, hc⟩ := flat_of hs (L := r) (fun c hc => h c (by simp [hc])) hk
      exact ⟨i + 1, j, c, by rw [Nat.add_mul]; omega, hj, by simpa using hi, hc⟩

/-! A row of elements in a block. -/
structure Row (w : World) (g : Nat) (e : TypeId) (size cap : Nat) (L : List (List Value)) : Prop where
  blk : ∃ cur : Array Value, w.heap[g]? = some (.cells cur e (0, 0)) ∧ cur.size = cap * size
  le : L.length ≤ cap
  max : cap ≤ maxLen
  elem : ∀ i c, L[i]? = some c → c.length = size ∧ (∀ u ∈ c, u.oneCell' = true) ∧ w.rangeAt g (i * size) c

section
variable {w w' : World} {g cap size : Nat} {e : TypeId} {L : List (List Value)}

theorem Row.lt (h : Row w g e size cap L) : g < w.heap.size := by
  obtain ⟨cur, hc, _⟩ := h.blk
  rcases Nat.lt_or_ge g w.heap.size with hlt | hge
  · exact hlt
  · rw [Array.getElem?_eq_none hge] at hc; cases hc

theorem range_of_block {b o : Nat} {cs : List Value} (h : w.rangeAt b o cs) (hb : w'.heap[b]? = w.heap[b]?) : w'.rangeAt b o cs := fun j v hv =>
  (World.cell?_of_block (a := ⟨b, o + j, none⟩) hb).trans (h j v hv)

theorem Row.keep (h : Row w g e size cap L) (hb : w'.heap[g]? = w.heap[g]?) : Row w' g e size cap L := by
  obtain ⟨⟨cur, h1, h2⟩, h3, h4, h5⟩ := h
  exact ⟨⟨cur, hb.trans h1, h2⟩, h3, h4, fun i c hc => ⟨(h5 i c hc).1, (h5 i c hc).2.1, range_of_block (h5 i c hc).2.2 hb⟩⟩

theorem Row.lens (h : Row w g e size cap L) : ∀ c ∈ L, c.length = size := fun c hc => by
  obtain ⟨i, hi⟩ := List.mem_iff_getElem?.1 hc
  exact (h.elem i c hi).1

theorem Row.there (h : Row w g e size cap L) {i : Nat} (hi : i < L.length) : w.there g (i * size) size := fun j hj => by
  obtain ⟨cur, h1, h2⟩ := h.blk
  obtain ⟨hl, _, hr⟩ := h.elem i _ (List.getElem?_eq_getElem hi)
  have hj' : j < (L[i]).length := by omega
  refine ⟨by rw [hr j _ (List.getElem?_eq_getElem hj')]; rfl, ?_⟩
  simp [World.frozen?, h1]

theorem setCells_block (g : Nat) (vs : List Value) : ∀ (o : Nat) (w : World) (cur : Array Value) (e : TypeId), w.heap[g]? = some (.cells cur e (0, 0)) → ∃ cur' : Array Value, (w.setCells g o vs).heap[g]? = some (.cells cur' e (0, 0)) ∧ cur'.size = cur.size := by
  induction vs with
  | nil => exact fun o w cur e h => ⟨cur, h, rfl⟩
  | cons v r ih =>
    intro o w cur e h
    obtain ⟨c', h1, h2⟩ := ih (o + 1) (w.setCell ⟨g, o, none⟩ v) (cur.setIfInBounds o v) e (heap_setCell_same w g o cur e v h)
    exact ⟨c', h1, by simpa using h2⟩

theorem setCells_other (g : Nat) (vs : List Value) : ∀ (o : Nat) (w : World) (k : Nat), k ≠ g → (w.setCells g o vs).heap[k]? = w.heap[k]? := by
  induction vs with
  | nil => exact fun o w k h => rfl
  | cons v r ih => exact fun o w k h => (ih (o + 1) _ k h).trans (Below.heap_setCell w _ v k h)

theorem setCells_size (g : Nat) (vs : List Value) : ∀ (o : Nat) (w : World), (w.setCells g o vs).heap.size = w.heap.size := by
  induction vs with
  | nil => exact fun o w => rfl
  | cons v r ih => exact fun o w => (ih (o + 1) _).trans (by simp [World.setCell])

theorem setCells_rest (g : Nat) (vs : List Value) : ∀ (o : Nat) (w : World), (w.setCells g o vs).os = w.os ∧ (w.setCells g o vs).tape = w.tape ∧ (w.setCells g o vs).output = w.output := by
  induction vs with
  | nil => exact fun o w => ⟨rfl, rfl, rfl⟩
  | cons v r ih => exact fun o w => ih (o + 1) (w.setCell ⟨g, o, none⟩ v)

theorem setCells_grown (w : World) (g o : Nat) (vs : List Value) : w.grownBy (w.setCells g o vs) (some g) :=
  ⟨(setCells_rest g vs o w).1, (setCells_rest g vs o w).2.1, (setCells_rest g vs o w).2.2, by rw [setCells_size]; exact Nat.le_refl _, fun k _ hne => setCells_other g vs o w k fun h => hne (by rw [h])⟩

/-- An element is another one. -/
theorem Row.set (h : Row w g e size cap L) {i : Nat} (hi : i < L.length) {c : List Value} (hc : c.length = size) (h1 : ∀ u ∈ c, u.oneCell' = true) : Row (w.setCells g (i * size) c) g e size cap (L.set i c) := by
  have ht := h.there hi
  obtain ⟨⟨cur, hb, hs⟩, h3, h4, h5⟩ := h
  obtain ⟨cur', hb', hs'⟩ := setCells_block g c (i * size) w cur e hb
  refine ⟨⟨cur', hb', by omega⟩, by simpa using h3, h4, fun k d hd => ?_⟩
  rw [List.getElem?_set] at hd
  by_cases hik : i = k
  · subst hik
    rw [if_pos rfl, if_pos hi] at hd
    obtain rfl : c = d := by simpa using hd
    exact ⟨hc, h1, World.rangeAt_setCells_same _ _ _ _ (by rw [hc]; exact ht)⟩
  · rw [if_neg hik] at hd
    obtain ⟨a1, a2, a3⟩ := h5 k d hd
    refine ⟨a1, a2, World.rangeAt_setCells_apart a3 _ _ _ (.inr ?_)⟩
    rw [a1, hc]
    rcases Nat.lt_or_ge k i with hlt | hge
    · left
      have : (k + 1) * size ≤ i * size := Nat.mul_le_mul_right _ hlt
      rw [Nat.add_mul] at this; omega
    · right
      have : (i + 1) * size ≤ k * size := Nat.mul_le_mul_right _ (by omega)
      rw [Nat.add_mul] at this; omega

/-- As append's laws see it. -/
theorem Row.owns (h : Row w g e size cap L) : w.ownsRow 0 e size (.slice (some ⟨g, 0, none⟩) L.length cap) L.length L.flatten := by
  have hl := flat_length h.lens
  obtain ⟨⟨cur, hb, hs⟩, h3, h4, h5⟩ := h
  refine ⟨hl, .inr ⟨g, cap, cur, rfl, Nat.zero_le _, hb, h3, h4, hs, ?_⟩⟩
  have hle : L.length * size ≤ cap * size := Nat.mul_le_mul_right _ h3
  apply List.ext_getElem?
  intro k
  rcases Nat.lt_or_ge k (L.length * size) with hk | hk
  · have hs0 : 0 < size := by
      rcases Nat.eq_zero_or_pos size with h0 | h0
      · rw [h0] at hk; simp at hk
      · exact h0
    have hk' : k < L.flatten.length := by omega
    obtain ⟨i, j, c, e1, hj, hi, hc⟩ := flat_of hs0 (fun c hc => by
      obtain ⟨i, hi⟩ := List.mem_iff_getElem?.1 hc
      exact (h5 i c hi).1) (List.getElem?_eq_getElem hk')
    rw [List.getElem?_take, if_pos hk, List.getElem?_eq_getElem hk', ← (h5 i c hi).2.2 j _ hc, e1, cell_of_row w g _ cur e (0, 0) hb]
    simp
  · rw [List.getElem?_eq_none (by simp; omega), List.getElem?_eq_none (by omega)]

theorem Row.of_owns {n : Nat} {base : Nat} (h : w.ownsRow base e size (.slice (some ⟨g, 0, none⟩) n cap) n L.flatten) (hn : n = L.length) (hl : ∀ c ∈ L, c.length = size) (h1 : ∀ c ∈ L, ∀ u ∈ c, u.oneCell' = true) : Row w g e size cap L := by
  subst hn
  have hat := fun j hj => World.ownsRow.cellAt h j hj
  rcases h.2 with ⟨hv, _⟩ | ⟨g', cap', cur, hv, _, hb, hc1, hc2, hc3, hc4⟩
  · cases hv
  · cases hv
    refine ⟨⟨cur, hb, hc3⟩, hc1, hc2, fun i c hi => ?_⟩
    have hm := List.mem_iff_getElem?.2 ⟨i, hi⟩
    refine ⟨hl c hm, h1 c hm, fun j u hu => ?_⟩
    have hi' : i < L.length := (List.getElem?_eq_some_iff.1 hi).1
    have hj' : j < c.length := (List.getElem?_eq_some_iff.1 hu).1
    have hcl := hl c hm
    have : (i + 1) * size ≤ L.length * size := Nat.mul_le_mul_right _ hi'
    rw [hat _ (by rw [Nat.add_mul] at this; omega), flat_get hl hi hu]

theorem Row.cells (h : Row w g e size cap L) (hs : 0 < size) : ∀ j u, L.flatten[j]? = some u → w.cell? ((⟨g, 0, none⟩ : Addr).add j) = some u := fun j u hu => by
  obtain ⟨i, k, c, rfl, hk, hi, hc⟩ := flat_of hs h.lens hu
  rw [Addr.add_mid, Nat.zero_add]
  exact (h.elem i c hi).2.2 k u hc
end

theorem mem_flat_one {L : List (List Value)} (h : ∀ c ∈ L, ∀ u ∈ c, u.oneCell' = true) : ∀ u ∈ L.flatten, u.oneCell' = true := fun u hu => by
  obtain ⟨c, hc, hu⟩ := List.mem_flatten.1 hu
  exact h c hc u hu

theorem Row.ones {w : World} {g cap size : Nat} {e : TypeId} {L : List (List Value)} (h : Row w g e size cap L) : ∀ c ∈ L, ∀ u ∈ c, u.oneCell' = true := fun c hc => by
  obtain ⟨i, hi⟩ := List.mem_iff_getElem?.1 hc
  exact (h.elem i c hi).2.1

/-! The disk on paper. -/
structure Dk (α : Type) where
  safe : List α
  un : List (Nat × α)
  dead : Bool
  cut : Bool
  left : Int
  done : Int

/-- Elements are put, one behind the other. -/
def puts {α : Type} (L : List α) (l : List (Nat × α)) : List α := l.foldl (fun L p => L.set p.1 p.2) L

section
variable {α : Type}
theorem puts_nil (L : List α) : puts L [] = L := rfl
theorem puts_cons (L : List α) (p : Nat × α) (l : List (Nat × α)) : puts L (p :: l) = puts (L.set p.1 p.2) l := rfl
theorem puts_append (L : List α) (l m : List (Nat × α)) : puts L (l ++ m) = puts (puts L l) m := List.foldl_append ..
theorem length_puts (L : List α) (l : List (Nat × α)) : (puts L l).length = L.length := by
  induction l generalizing L with
  | nil => rfl
  | cons p l ih => rw [puts_cons, ih, List.length_set]

/-- The sectors as they were written last. -/
def Dk.now (k : Dk α) : List α := puts k.safe k.un
/-- Is there such a sector? -/
def Dk.has (k : Dk α) (s : Int) : Bool := decide (0 ≤ s) && decide (s < (k.safe.length : Int))
/-- Can an operation be done? -/
def Dk.off (k : Dk α) : Bool := k.dead || (k.cut && decide (k.left = 0))
/-- It counts. -/
def Dk.op (k : Dk α) : Dk α := if k.off then { k with dead := true } else { k with left := if k.cut then wrap64 (k.left - 1) else k.left, done := wrap64 (k.done + 1) }
/-- Which writes are there, the first one's number being i. -/
def kept (there : Nat) : Nat → List (Nat × α) → List (Nat × α)
  | _, [] => []
  | i, p :: l => if there.testBit (i % 64) then p :: kept there (i + 1) l else kept there (i + 1) l
def Dk.settle (there : Nat) (k : Dk α) : Dk α := { k with safe := puts k.safe (kept there 0 k.un), un := [] }
def Dk.wrote (k : Dk α) (s : Nat) (c : α) : Dk α := { k.op with un := k.un ++ [(s, c)] }
def Dk.flush (k : Dk α) : Dk α := if k.off then k.op else { k.op with safe := k.now, un := [] }
def Dk.cutAt (k : Dk α) (after : Int) : Dk α := if k.dead then k else { k with cut := decide (0 ≤ after), left := after }
def Dk.crash (k : Dk α) (there : Nat) : Dk α := { k.settle there with dead := false, cut := false }
def Dk.fresh (n : Nat) (z : α) : Dk α := ⟨List.replicate n z, [], false, false, 0, 0⟩

theorem Dk.op_safe (k : Dk α) : k.op.safe = k.safe := by unfold Dk.op; split <;> rfl
theorem Dk.op_un (k : Dk α) : k.op.un = k.un := by unfold Dk.op; split <;> rfl
theorem Dk.op_now (k : Dk α) : k.op.now = k.now := by simp only [Dk.now, Dk.op_safe, Dk.op_un]
end

/-! The disk in memory. -/
/-- An element is 65 cells. -/
structure Enc {α : Type} (f : α → List Value) : Prop where
  len : ∀ a, (f a).length = 65
  one : ∀ a, ∀ u ∈ f a, u.oneCell' = true

/-- A write that is not safe. -/
def ent {α : Type} (f : α → List Value) (p : Nat × α) : List Value := .int .i64 (p.1 : Int) :: f p.2

/-- The list of them. -/
def URow (w : World) (vu : Value) (L : List (List Value)) : Prop :=
  (vu = .slice none 0 0 ∧ L = []) ∨ ∃ bu cu, vu = .slice (some ⟨bu, 0, none⟩) L.length cu ∧ Row w bu 188 66 cu L

structure Mem {α : Type} (f : α → List Value) (w : World) (b bn bs cn cs : Nat) (vu : Value) (now safe : List α) (un : List (Nat × α)) (dead cut : Bool) (left done : Int) : Prop where
  blk : Bk w b 126 [.slice (some ⟨bn, 0, none⟩) now.length cn, .slice (some ⟨bs, 0, none⟩) safe.length cs, vu, .bool dead, .bool cut, .int .i64 left, .int .i64 done]
  nowR : Row w bn 148 65 cn (now.map f)
  safeR : Row w bs 148 65 cs (safe.map f)
  unR : URow w vu (un.map (ent f))
  ne : bn ≠ bs
  len : now.length = safe.length
  idx : ∀ p ∈ un, p.1 < safe.length

/-- The blocks that it has. -/
def foot (b bn bs : Nat) (vu : Value) (i : Nat) : Prop := i = b ∨ i = bn ∨ i = bs ∨ vu.ownBlock = some i

/-- There is a disk. -/
def IsDisk {α : Type} (f : α → List Value) (w : World) (S : Nat → Prop) (b : Nat) (k : Dk α) : Prop :=
  ∃ bn bs cn cs vu, S = foot b bn bs vu ∧ Mem f w b bn bs cn cs vu k.now k.safe k.un k.dead k.cut k.left k.done

theorem URow.keep {w w' : World} {vu : Value} {L : List (List Value)} (h : URow w vu L) (hb : ∀ i, vu.ownBlock = some i → w'.heap[i]? = w.heap[i]?) : URow w' vu L := by
  rcases h with h | ⟨bu, cu, rfl, h⟩
  · exact .inl h
  · exact .inr ⟨bu, cu, rfl, h.keep (hb bu rfl)⟩

theorem URow.lt {w : World} {vu : Value} {L : List (List Value)} (h : URow w vu L) {i : Nat} (hi : vu.ownBlock = some i) : i < w.heap.size := by
  rcases h with ⟨rfl, _⟩ | ⟨bu, cu, rfl, h⟩
  · cases hi
  · cases hi; exact h.lt

theorem Row.elemType {w : World} {g cap size : Nat} {e : TypeId} {L : List (List Value)} (h : Row w g e size cap L) : ∃ c, w.heap[g]? = some (.cells c e (0, 0)) := by
  obtain ⟨cur, h1, _⟩ := h.blk
  exact ⟨cur, h1⟩

theorem type_ne {w : World} {a b : Nat} {c d : Array Value} {e g : TypeId} (h1 : w.heap[a]? = some (.cells c e (0, 0))) (h2 : w.heap[b]? = some (.cells d g (0, 0))) (he : e ≠ g) : a ≠ b := by
  rintro rfl
  rw [h1] at h2
  cases h2
  exact he rfl

section
variable {α : Type} {f : α → List Value} {w w' : World} {b bn bs cn cs : Nat} {vu : Value} {now safe : List α} {un : List (Nat × α)} {dead cut : Bool} {left done : Int}

theorem Mem.b_bn (h : Mem f w b bn bs cn cs vu now safe un dead cut left done) : b ≠ bn := by
  obtain ⟨c, hc⟩ := h.nowR.elemType
  exact type_ne h.blk hc (by decide)
theorem Mem.b_bs (h : Mem f w b bn bs cn cs vu now safe un dead cut left done) : b ≠ bs := by
  obtain ⟨c, hc⟩ := h.safeR.elemType
  exact type_ne h.blk hc (by decide)
theorem Mem.bu (h : Mem f w b bn bs cn cs vu now safe un dead cut left done) {i : Nat} (hi : vu.ownBlock = some i) : i ≠ b ∧ i ≠ bn ∧ i ≠ bs := by
  rcases h.unR with ⟨rfl, _⟩ | ⟨bu, cu, rfl, hr⟩
  · cases hi
  · cases hi
    obtain ⟨c, hc⟩ := hr.elemType
    obtain ⟨c1, hc1⟩ := h.nowR.elemType
    obtain ⟨c2, hc2⟩ := h.safeR.elemType
    exact ⟨type_ne hc h.blk (by decide), type_ne hc hc1 (by decide), type_ne hc hc2 (by decide)⟩

theorem Mem.keep (h : Mem f w b bn bs cn cs vu now safe un dead cut left done) (hk : ∀ i, foot b bn bs vu i → w'.heap[i]? = w.heap[i]?) : Mem f w' b bn bs cn cs vu now safe un dead cut left done :=
  ⟨(hk b (.inl rfl)).trans h.blk, h.nowR.keep (hk bn (.inr (.inl rfl))), h.safeR.keep (hk bs (.inr (.inr (.inl rfl)))), h.unR.keep fun i hi => hk i (.inr (.inr (.inr hi))), h.ne, h.len, h.idx⟩

theorem Mem.lt (h : Mem f w b bn bs cn cs vu now safe un dead cut left done) {i : Nat} (hi : foot b bn bs vu i) : i < w.heap.size := by
  rcases hi with rfl | rfl | rfl | hi
  · exact h.blk.lt
  · exact h.nowR.lt
  · exact h.safeR.lt
  · exact h.unR.lt hi

/-- Its own block is another one. -/
theorem Mem.own (h : Mem f w b bn bs cn cs vu now safe un dead cut left done) (hg : w.grownBy w' (some b)) {dead' cut' : Bool} {left' done' : Int}
    (hb : Bk w' b 126 [.slice (some ⟨bn, 0, none⟩) now.length cn, .slice (some ⟨bs, 0, none⟩) safe.length cs, vu, .bool dead', .bool cut', .int .i64 left', .int .i64 done']) : Mem f w' b bn bs cn cs vu now safe un dead' cut' left' done' := by
  have hk : ∀ i, foot b bn bs vu i → i ≠ b → w'.heap[i]? = w.heap[i]? := fun i hi hne => hg.block i (h.lt hi) (by rintro e; injection e with e; exact hne e)
  exact ⟨hb, h.nowR.keep (hk bn (.inr (.inl rfl)) h.b_bn.symm), h.safeR.keep (hk bs (.inr (.inr (.inl rfl))) h.b_bs.symm), h.unR.keep fun i hi => hk i (.inr (.inr (.inr hi))) (h.bu hi).1, h.ne, h.len, h.idx⟩

theorem Mem.nowC (h : Mem f w b bn bs cn cs vu now safe un dead cut left done) : w.cell? ⟨b, 0, none⟩ = some (.slice (some ⟨bn, 0, none⟩) now.length cn) := h.blk.cell 0
theorem Mem.safeC (h : Mem f w b bn bs cn cs vu now safe un dead cut left done) : w.cell? ⟨b, 1, none⟩ = some (.slice (some ⟨bs, 0, none⟩) safe.length cs) := h.blk.cell 1
theorem Mem.unC (h : Mem f w b bn bs cn cs vu now safe un dead cut left done) : w.cell? ⟨b, 2, none⟩ = some vu := h.blk.cell 2
theorem Mem.deadC (h : Mem f w b bn bs cn cs vu now safe un dead cut left done) : w.cell? ⟨b, 3, none⟩ = some (.bool dead) := h.blk.cell 3
theorem Mem.cutC (h : Mem f w b bn bs cn cs vu now safe un dead cut left done) : w.cell? ⟨b, 4, none⟩ = some (.bool cut) := h.blk.cell 4
theorem Mem.leftC (h : Mem f w b bn bs cn cs vu now safe un dead cut left done) : w.cell? ⟨b, 5, none⟩ = some (.int .i64 left) := h.blk.cell 5
theorem Mem.doneC (h : Mem f w b bn bs cn cs vu now safe un dead cut left done) : w.cell? ⟨b, 6, none⟩ = some (.int .i64 done) := h.blk.cell 6
end

/-- But for those blocks all is as it was. -/
structure Kept (S : Nat → Prop) (w w' : World) : Prop where
  os : w'.os = w.os
  tape : w'.tape = w.tape
  output : w'.output = w.output
  size : w.heap.size ≤ w'.heap.size
  block : ∀ k, k < w.heap.size → ¬ S k → w'.heap[k]? = w.heap[k]?

section
variable {S T : Nat → Prop} {w w1 w2 : World}
theorem Kept.refl (S : Nat → Prop) (w : World) : Kept S w w := ⟨rfl, rfl, rfl, Nat.le_refl _, fun _ _ _ => rfl⟩
theorem Kept.drew (h : Kept S w w1) : Kept S w w1.drew := ⟨h.os, h.tape, h.output, h.size, h.block⟩
theorem Kept.of_grown {row : Option Nat} (h : w.grownBy w1 row) (hr : ∀ k, row = some k → S k) : Kept S w w1 := ⟨h.os, h.tape, h.output, h.size, fun k hk hs => h.block k hk fun e => hs (hr k e.symm)⟩
theorem Kept.of_below (h : Below w.heap.size w w1) : Kept S w w1 := ⟨h.os, h.tape, h.output, h.size, fun k hk _ => h.block k hk⟩
/-- One step behind the other: the second one may change what the first one may, and what is new. -/
theorem Kept.trans (h : Kept S w w1) (k : Kept T w1 w2) (hT : ∀ i, T i → S i ∨ w.heap.size ≤ i) : Kept S w w2 :=
  ⟨k.os.trans h.os, k.tape.trans h.tape, k.output.trans h.output, Nat.le_trans h.size k.size, fun i hi hs => (k.block i (Nat.lt_of_lt_of_le hi h.size) fun ht => by
    rcases hT i ht with h1 | h1
    · exact hs h1
    · omega).trans (h.block i hi hs)⟩
theorem Kept.below {B : Nat} (h : Kept S w w1) (hS : ∀ i, S i → B ≤ i) (hB : B ≤ w.heap.size) : Below B w w1 :=
  ⟨h.os, h.tape, h.output, h.size, fun k hk => h.block k (by omega) fun hs => by have := hS k hs; omega⟩
end

/-- What a call makes of a disk: it is that one now; of the rest nothing has turned. -/
def Turned {α : Type} (f : α → List Value) (S : Nat → Prop) (w w' : World) (b : Nat) (k : Dk α) : Prop :=
  Kept S w w' ∧ ∃ S', IsDisk f w' S' b k ∧ ∀ i, S' i → S i ∨ w.heap.size ≤ i

theorem IsDisk.lt {α : Type} {f : α → List Value} {w : World} {S : Nat → Prop} {b : Nat} {k : Dk α} (h : IsDisk f w S b k) {i : Nat} (hi : S i) : i < w.heap.size := by
  obtain ⟨bn, bs, cn, cs, vu, rfl, hm⟩ := h
  exact hm.lt hi
theorem IsDisk.keep {α : Type} {f : α → List Value} {w w' : World} {S : Nat → Prop} {b : Nat} {k : Dk α} (h : IsDisk f w S b k) (hk : ∀ i, S i → w'.heap[i]? = w.heap[i]?) : IsDisk f w' S b k := by
  obtain ⟨bn, bs, cn, cs, vu, rfl, hm⟩ := h
  exact ⟨bn, bs, cn, cs, vu, rfl, hm.keep hk⟩
theorem IsDisk.below {α : Type} {f : α → List Value} {w w' : World} {S : Nat → Prop} {b : Nat} {k : Dk α} (h : IsDisk f w S b k) (hb : Below w.heap.size w w') : IsDisk f w' S b k := h.keep fun _ hi => hb.block _ (h.lt hi)
theorem IsDisk.aside {α : Type} {f : α → List Value} {w w' : World} {S T : Nat → Prop} {b : Nat} {k : Dk α} (h : IsDisk f w S b k) (hb : Kept T w w') (hd : ∀ i, S i → ¬ T i) : IsDisk f w' S b k := h.keep fun i hi => hb.block i (h.lt hi) (hd i hi)

end Go.Proofs.YtcjkbmmjpkghlaaGreat

/-
  The small calls of a disk: whether a sector is there, whether it can be reached, whether an operation can be done.
-/
namespace Go.Proofs.YtcjkbmmjpkghlaaGreat
open Go.RowKit

section
variable {α : Type} {f : α → List Value}

theorem has_any (w : World) (S : Nat → Prop) (b : Nat) (k : Dk α) (s : Int) (h : IsDisk f w S b k) :
    Calls Tryz.prog 158 #[.pointer (some ⟨b, 0, none⟩), .int .i64 s] w fun e w' => e = .returned (.bool (k.has s)) ∧ w = w' := by
  obtain ⟨bn, bs, cn, cs, vu, rfl, hm⟩ := h
  have h0 := hm.nowC
  rw [hm.len] at h0
  unfold Dk.has
  generalize k.safe.length = n at *
  clear hm
  by_cases hs : 0 ≤ s
  · by_cases hn : s < n
    · go_enter Tryz.func158, Tryz.ntmps158
      go_wp2
      go_ret
      simp [hs, hn]
    · go_enter Tryz.func158, Tryz.ntmps158
      go_wp2
      go_ret
      simp [hn]
  · go_enter Tryz.func158, Tryz.ntmps158
    go_wp2
    go_ret
    simp
    omega

set_option maxHeartbeats 400000 in
theorem op_any (w : World) (b bn bs cn cs : Nat) (vu : Value) (now safe : List α) (un : List (Nat × α)) (dead cut : Bool) (left done : Int) (hm : Mem f w b bn bs cn cs vu now safe un dead cut left done) :
    Calls Tryz.prog 159 #[.pointer (some ⟨b, 0, none⟩)] w fun e w' => e = .returned (.bool (!(dead || (cut && decide (left = 0))))) ∧ w.grownBy w' (some b) ∧
      (if (dead || (cut && decide (left = 0))) = true then Mem f w' b bn bs cn cs vu now safe un true cut left done else Mem f w' b bn bs cn cs vu now safe un dead cut (if cut then wrap64 (left - 1) else left) (wrap64 (done + 1))) := by
  have hB := hm.blk
  have H := Lib.hid hm
  have h3 := hm.deadC
  have h4 := hm.cutC
  have h5 := hm.leftC
  have h6 := hm.doneC
  have f3 := hB.frozen 3
  have f5 := hB.frozen 5
  have f6 := hB.frozen 6
  clear hm
  have HB := Lib.hid hB
  clear hB
  have fin : ∀ (w' : World) (dead' cut' : Bool) (left' done' : Int), w.grownBy w' (some b) → Bk w' b 126 [.slice (some ⟨bn, 0, none⟩) now.length cn, .slice (some ⟨bs, 0, none⟩) safe.length cs, vu, .bool dead', .bool cut', .int .i64 left', .int .i64 done'] →
      w.grownBy w' (some b) ∧ Mem f w' b bn bs cn cs vu now safe un dead' cut' left' done' := fun w' _ _ _ _ hg hb => ⟨hg, H.out.own hg hb⟩
  have g0 := World.grownBy.refl w (some b)
  cases cut
  · cases dead
    · go_enter Tryz.func159, Tryz.ntmps159
      go_wp2
      go_ret
      exact ⟨rfl, fin _ _ _ _ _ (only_set g0 6 _) (HB.out.set 6 _)⟩
    · go_enter Tryz.func159, Tryz.ntmps159
      go_wp2
      go_ret
      exact ⟨rfl, fin _ _ _ _ _ g0 HB.out⟩
  · by_cases hl : left = 0
    · subst hl
      cases dead
      · go_enter Tryz.func159, Tryz.ntmps159
        go_wp2
        go_ret
        exact ⟨rfl, fin _ _ _ _ _ (only_set g0 3 _) (HB.out.set 3 _)⟩
      · go_enter Tryz.func159, Tryz.ntmps159
        go_wp2
        go_ret
        exact ⟨rfl, fin _ _ _ _ _ (only_set g0 3 _) (HB.out.set 3 _)⟩
    · cases dead
      · go_enter Tryz.func159, Tryz.ntmps159
        go_wp2
        case inl h => simp [hl] at h
        go_ret
        refine ⟨by simp, ?_⟩
        have := fin _ _ _ _ _ (only_set (only_set g0 5 (.int .i64 (wrap64 (left - 1)))) 6 (.int .i64 (wrap64 (done + 1)))) ((HB.out.set 5 (.int .i64 (wrap64 (left - 1)))).set 6 (.int .i64 (wrap64 (done + 1))))
        simpa [hl] using this
      · go_enter Tryz.func159, Tryz.ntmps159
        go_wp2
        go_ret
        exact ⟨rfl, fin _ _ _ _ _ g0 HB.out⟩

theorem has_mem (w : World) (b bn bs cn cs : Nat) (vu : Value) (now safe : List α) (un : List (Nat × α)) (dead cut : Bool) (left done : Int) (hm : Mem f w b bn bs cn cs vu now safe un dead cut left done) (s : Int) :
    Calls Tryz.prog 158 #[.pointer (some ⟨b, 0, none⟩), .int .i64 s] w fun e w' => e = .returned (.bool (decide (0 ≤ s) && decide (s < (safe.length : Int)))) ∧ w = w' := by
  have h0 := hm.nowC
  rw [hm.len] at h0
  generalize safe.length = n at *
  clear hm
  by_cases hs : 0 ≤ s
  · by_cases hn : s < n
    · go_enter Tryz.func158, Tryz.ntmps158
      go_wp2
      go_ret
      simp [hs, hn]
    · go_enter Tryz.func158, Tryz.ntmps158
      go_wp2
      go_ret
      simp [hn]
  · go_enter Tryz.func158, Tryz.ntmps158
    go_wp2
    go_ret
    simp
    omega

/-- The error of reading a sector. -/
def Dk.err (k : Dk α) (s : Int) : Int := if k.has s then (if k.dead then 6 else 0) else 1

theorem reach_any (w : World) (b bn bs cn cs : Nat) (vu : Value) (k : Dk α) (hm : Mem f w b bn bs cn cs vu k.now k.safe k.un k.dead k.cut k.left k.done) (s : Int) :
    Calls Tryz.prog 97 #[.pointer (some ⟨b, 0, none⟩), .int .i64 s] w fun e w' => e = .returned (.int .i64 (k.err s)) ∧ w = w' := by
  have h3 := hm.deadC
  have H := Lib.hid hm
  clear hm
  unfold Dk.err Dk.has
  cases hh : (decide (0 ≤ s) && decide (s < (k.safe.length : Int)))
  · have Hh := Lib.hid hh
    clear hh
    go_enter Tryz.func97, Tryz.ntmps97
    go_wp2_with (go_at_call 158; refine (has_mem _ _ _ _ _ _ _ _ _ _ _ _ _ _ H.out s).mono ?_; rintro e w' ⟨rfl, rfl⟩; rw [Hh.out])
    go_ret
    exact ⟨rfl, rfl⟩
  · have Hh := Lib.hid hh
    clear hh
    generalize k.dead = dd at *
    cases dd
    · go_enter Tryz.func97, Tryz.ntmps97
      go_wp2_with (go_at_call 158; refine (has_mem _ _ _ _ _ _ _ _ _ _ _ _ _ _ H.out s).mono ?_; rintro e w' ⟨rfl, rfl⟩; rw [Hh.out])
      go_ret
      exact ⟨rfl, rfl⟩
    · go_enter Tryz.func97, Tryz.ntmps97
      go_wp2_with (go_at_call 158; refine (has_mem _ _ _ _ _ _ _ _ _ _ _ _ _ _ H.out s).mono ?_; rintro e w' ⟨rfl, rfl⟩; rw [Hh.out])
      go_ret
      exact ⟨rfl, rfl⟩

theorem reach_nil (w : World) (s : Int) :
    Calls Tryz.prog 97 #[.pointer none, .int .i64 s] w fun e w' => e = .returned (.int .i64 2) ∧ w = w' := by
  go_enter Tryz.func97, Tryz.ntmps97
  go_wp2
  go_ret
  exact ⟨rfl, rfl⟩

theorem dead_any (w : World) (S : Nat → Prop) (b : Nat) (k : Dk α) (h : IsDisk f w S b k) :
    Calls Tryz.prog 28 #[.pointer (some ⟨b, 0, none⟩)] w fun e w' => e = .returned (.bool k.dead) ∧ w = w' := by
  obtain ⟨bn, bs, cn, cs, vu, rfl, hm⟩ := h
  have h3 := hm.deadC
  clear hm
  go_enter Tryz.func28, Tryz.ntmps28
  go_wp2
  go_ret
  exact ⟨rfl, rfl⟩

theorem done_any (w : World) (S : Nat → Prop) (b : Nat) (k : Dk α) (h : IsDisk f w S b k) :
    Calls Tryz.prog 42 #[.pointer (some ⟨b, 0, none⟩)] w fun e w' => e = .returned (.int .i64 k.done) ∧ w = w' := by
  obtain ⟨bn, bs, cn, cs, vu, rfl, hm⟩ := h
  have h3 := hm.doneC
  clear hm
  go_enter Tryz.func42, Tryz.ntmps42
  go_wp2
  go_ret
  exact ⟨rfl, rfl⟩

theorem len_any (w : World) (S : Nat → Prop) (b : Nat) (k : Dk α) (h : IsDisk f w S b k) :
    Calls Tryz.prog 43 #[.pointer (some ⟨b, 0, none⟩)] w fun e w' => e = .returned (.int .i64 (k.safe.length : Int)) ∧ w = w' := by
  obtain ⟨bn, bs, cn, cs, vu, rfl, hm⟩ := h
  have h3 := hm.nowC
  rw [hm.len] at h3
  generalize k.safe.length = n at *
  clear hm
  go_enter Tryz.func43, Tryz.ntmps43
  go_wp2
  go_ret
  exact ⟨rfl, rfl⟩

/-- A cut. -/
theorem cut_any (w : World) (S : Nat → Prop) (b : Nat) (k : Dk α) (h : IsDisk f w S b k) (a : Int) :
    Calls Tryz.prog 25 #[.pointer (some ⟨b, 0, none⟩), .int .i64 a] w fun e w' => e = .returned (.tuple #[]) ∧ Turned f S w w' b (k.cutAt a) := by
  obtain ⟨bn, bs, cn, cs, vu, rfl, hm⟩ := h
  have hB := hm.blk
  have H := Lib.hid hm
  have h3 := hm.deadC
  have h4 := hm.cutC
  have h5 := hm.leftC
  have f4 := hB.frozen 4
  have f5 := hB.frozen 5
  clear hm
  have HB := Lib.hid hB
  clear hB
  have g0 := World.grownBy.refl w (some b)
  have fin : ∀ (w' : World) (cut' : Bool) (left' : Int), w.grownBy w' (some b) → Bk w' b 126 [.slice (some ⟨bn, 0, none⟩) k.now.length cn, .slice (some ⟨bs, 0, none⟩) k.safe.length cs, vu, .bool k.dead, .bool cut', .int .i64 left', .int .i64 k.done] →
      Turned f (foot b bn bs vu) w w' b { k with cut := cut', left := left' } := fun w' _ _ hg hb =>
    ⟨Kept.of_grown hg (by rintro _ h; injection h with h; exact .inl h.symm), _, ⟨bn, bs, cn, cs, vu, rfl, H.out.own hg hb⟩, fun i hi => .inl hi⟩
  have same : Turned f (foot b bn bs vu) w w b k := ⟨Kept.refl _ _, _, ⟨bn, bs, cn, cs, vu, rfl, H.out⟩, fun i hi => .inl hi⟩
  unfold Dk.cutAt
  cases hd : k.dead
  · rw [hd] at h3 HB fin
    clear hd same
    go_enter Tryz.func25, Tryz.ntmps25
    go_wp2
    go_end0
    exact ⟨rfl, fin _ _ _ (only_set (only_set g0 4 _) 5 _) ((HB.out.set 4 _).set 5 _)⟩
  · rw [hd] at h3
    go_enter Tryz.func25, Tryz.ntmps25
    go_wp2
    refine bodyPost_ret (results_none rfl _ _ _) rfl ?_
    exact ⟨rfl, same⟩
end

end Go.Proofs.YtcjkbmmjpkghlaaGreat

/-
  A new disk; a sector's bytes and its tag.
-/
namespace Go.Proofs.YtcjkbmmjpkghlaaGreat
open Go.RowKit
attribute [local go_sem ↓] Go.wp_at_zero Go.wp_at_succ

section
variable {α : Type} {f : α → List Value}

theorem size61 : (Tryz.prog.info? 131).map (·.size) = some 64 := by kernel_rfl
theorem size63 : (Tryz.prog.info? 148).map (·.size) = some 65 := by kernel_rfl
theorem size65 : (Tryz.prog.info? 188).map (·.size) = some 66 := by kernel_rfl

set_option maxHeartbeats 400000 in
theorem tag_any (w : World) (S : Nat → Prop) (b : Nat) (k : Dk α) (h : IsDisk f w S b k) (s : Nat) (c : α) (bs' : List Value) (t : Value) (hc : k.now[s]? = some c) (hf : f c = bs' ++ [t]) (hl : bs'.length = 64) (hd : k.dead = false) :
    Calls Tryz.prog 45 #[.pointer (some ⟨b, 0, none⟩), .int .i64 (s : Int)] w fun e w' => e = .returned (.tuple #[t, .int .i64 0]) ∧ w = w' := by
  obtain ⟨bn, bs, cn, cs, vu, rfl, hm⟩ := h
  have hs : s < k.now.length := (List.getElem?_eq_some_iff.1 hc).1
  have he : k.err s = 0 := by
    have := hm.len
    simp [Dk.err, Dk.has, hd]
    omega
  have h0 := hm.nowC
  have ht : w.cell? ⟨bn, s * 65 + 64, none⟩ = some t := by
    have := (hm.nowR.elem s (f c) (by rw [List.getElem?_map, hc]; rfl)).2.2 64 t (by rw [hf, List.getElem?_append_right (by omega), hl]; rfl)
    exact this
  have H := Lib.hid hm
  have He := Lib.hid he
  have hs' : (s : Int) < (k.now.length : Int) := by omega
  generalize k.now.length = n at *
  clear hm he hc hf hd
  go_enter Tryz.func45, Tryz.ntmps45
  go_wp2_with (go_at_call 97; refine (reach_any _ _ _ _ _ _ _ _ H.out s).mono ?_; rintro e w' ⟨rfl, rfl⟩; rw [He.out])
  go_ret2
  exact ⟨rfl, rfl⟩

set_option maxHeartbeats 400000 in
theorem read_any (w : World) (S : Nat → Prop) (b : Nat) (k : Dk α) (h : IsDisk f w S b k) (s : Nat) (c : α) (bs' : List Value) (t : Value) (hc : k.now[s]? = some c) (hf : f c = bs' ++ [t]) (hl : bs'.length = 64) (h1 : ∀ u ∈ bs', u.oneCell' = true) (hd : k.dead = false) :
    Calls Tryz.prog 44 #[.pointer (some ⟨b, 0, none⟩), .int .i64 (s : Int)] w fun e w' => e = .returned (.tuple #[.slice (some ⟨w.heap.size, 0, none⟩) 64 64, .int .i64 0]) ∧ Bk w' w.heap.size 131 bs' ∧ Below w.heap.size w w' := by
  obtain ⟨bn, bs, cn, cs, vu, rfl, hm⟩ := h
  have hs : s < k.now.length := (List.getElem?_eq_some_iff.1 hc).1
  have he : k.err s = 0 := by
    have := hm.len
    simp [Dk.err, Dk.has, hd]
    omega
  have h0 := hm.nowC
  have ht : w.rangeAt bn (s * 65) bs' := fun j v hj => by
    have := (hm.nowR.elem s (f c) (by rw [List.getElem?_map, hc]; rfl)).2.2 j v (by rw [hf, List.getElem?_append_left (List.getElem?_eq_some_iff.1 hj).1]; exact hj)
    exact this
  have hst : ∀ (c0 : Array Value), c0.size = 64 → (storeCells ⟨w.heap.size, 0, none⟩ bs' 0).run Tryz.prog (w.alloc (.cells c0 131)) = .ok () (w.alloc (.cells bs'.toArray 131)) := fun c0 h0 => by
    simpa using run_storeCells_new (P := Tryz.prog) w 131 c0 bs'.toArray (by rw [size61]; simp [hl]) (by simp [hl, h0]) (all_oneCell_toArray h1)
  have H := Lib.hid hm
  have He := Lib.hid he
  have hs' : (s : Int) < (k.now.length : Int) := by omega
  generalize k.now.length = n at *
  clear hm he hc hf hd
  go_enter Tryz.func44, Tryz.ntmps44
  go_wp2_with (first | (refine wpList_load_mid rfl 131 (.tmp 20) rfl bn (s * 65) rfl bs' _ ht Tryz.underlying131 rfl (by rw [size61, hl]) ?_) | (go_at_call 97; refine (reach_any _ _ _ _ _ _ _ _ H.out s).mono ?_; rintro e w' ⟨rfl, rfl⟩; rw [He.out]))
  go_ret2
  exact ⟨rfl, Bk.new w 131 bs', (Below.refl _ w).alloc (Nat.le_refl _) _⟩

/-- What can't be read. -/
theorem read_err (w : World) (S : Nat → Prop) (b : Nat) (k : Dk α) (h : IsDisk f w S b k) (s x : Int) (he : k.err s = x) (hx : x ≠ 0) :
    Calls Tryz.prog 44 #[.pointer (some ⟨b, 0, none⟩), .int .i64 s] w fun e w' => e = .returned (.tuple #[.slice none 0 0, .int .i64 x]) ∧ w = w' := by
  obtain ⟨bn, bs, cn, cs, vu, rfl, hm⟩ := h
  have H := Lib.hid hm
  have He := Lib.hid he
  clear hm he
  go_enter Tryz.func44, Tryz.ntmps44
  go_wp2_with (go_at_call 97; refine (reach_any _ _ _ _ _ _ _ _ H.out s).mono ?_; rintro e w' ⟨rfl, rfl⟩; rw [He.out])
  go_ret2
  exact ⟨rfl, rfl⟩

theorem read_nil (w : World) (s : Int) :
    Calls Tryz.prog 44 #[.pointer none, .int .i64 s] w fun e w' => e = .returned (.tuple #[.slice none 0 0, .int .i64 2]) ∧ w = w' := by
  go_enter Tryz.func44, Tryz.ntmps44
  go_wp2_with (go_at_call 97; refine (reach_nil _ s).mono ?_; rintro e w' ⟨rfl, rfl⟩)
  go_ret2
  exact ⟨rfl, rfl⟩

theorem tag_nil (w : World) (s : Int) :
    Calls Tryz.prog 45 #[.pointer none, .int .i64 s] w fun e w' => e = .returned (.tuple #[.int .u16 0, .int .i64 2]) ∧ w = w' := by
  go_enter Tryz.func45, Tryz.ntmps45
  go_wp2_with (go_at_call 97; refine (reach_nil _ s).mono ?_; rintro e w' ⟨rfl, rfl⟩)
  go_ret2
  exact ⟨rfl, rfl⟩

/-- A sector of 0. -/
def z65 : List Value := List.replicate 64 (.int .u8 0) ++ [.int .u16 0]
theorem zero63 : Tryz.t148.zero = some (.agg z65.toArray) := by kernel_rfl

/-- A row of sectors of 0. -/
theorem row_zero (z : α) (hz : f z = z65) (n : Nat) (hn : n ≤ 4096) (w : World) (g : Nat) (Z : Array Value) (hZ : Z = madeCells z65.toArray (n * 65)) (hg : w.heap[g]? = some (.cells Z 148 (0, 0))) : Row w g 148 65 n ((List.replicate n z).map f) := by
  have hl : (f z).length = 65 := by rw [hz]; rfl
  refine ⟨⟨Z, hg, by rw [hZ]; simp [madeCells]⟩, by simp, by simp [maxLen]; omega, fun i c hc => ?_⟩
  rw [List.map_replicate, List.getElem?_replicate] at hc
  split at hc
  · cases hc
    refine ⟨hl, fun u hu => ?_, fun j v hj => ?_⟩
    · rw [hz] at hu
      simp only [z65, List.mem_append, List.mem_replicate, List.mem_singleton] at hu
      rcases hu with ⟨_, rfl⟩ | rfl <;> rfl
    · have hj' : j < 65 := by have := (List.getElem?_eq_some_iff.1 hj).1; omega
      rw [cell_of_row w g _ Z 148 (0, 0) hg, hZ]
      have hlt : i * 65 + j < n * 65 := by omega
      have hm : (i * 65 + j) % 65 = j := by omega
      rw [hz] at hj
      have e1 : (madeCells z65.toArray (n * 65))[i * 65 + j]? = some (z65.toArray[j]!) := by
        unfold madeCells
        rw [Array.getElem?_map, Array.getElem?_range, if_pos hlt]
        simp only [Option.map_some]
        rw [show z65.toArray.size = 65 from rfl, hm]
      rw [e1, ← hj]
      simp [hj]
  · cases hc

theorem fresh_disk (z : α) (hz : f z = z65) (n : Nat) (hn : n ≤ 4096) (w : World) (b g1 g2 : Nat) (Z : Array Value) (hZ : Z = madeCells z65.toArray (n * 65)) (h1 : w.heap[g1]? = some (.cells Z 148 (0, 0))) (h2 : w.heap[g2]? = some (.cells Z 148 (0, 0))) (hne : g1 ≠ g2)
    (hb : Bk w b 126 [.slice (some ⟨g1, 0, none⟩) n n, .slice (some ⟨g2, 0, none⟩) n n, .slice none 0 0, .bool false, .bool false, .int .i64 0, .int .i64 0]) : IsDisk f w (foot b g1 g2 (.slice none 0 0)) b (Dk.fresh n z) :=
  ⟨g1, g2, n, n, _, rfl, ⟨by simpa [Dk.fresh, Dk.now, puts] using hb, row_zero z hz n hn w g1 Z hZ h1, row_zero z hz n hn w g2 Z hZ h2, .inl ⟨rfl, rfl⟩, hne, rfl, fun p hp => by cases hp⟩⟩

theorem three_blocks (w : World) (A B C : Obj) : (((w.alloc A).alloc B).alloc C).drew.heap[w.heap.size]? = some A ∧ (((w.alloc A).alloc B).alloc C).drew.heap[w.heap.size + 1]? = some B ∧ (((w.alloc A).alloc B).alloc C).drew.heap[w.heap.size + 1 + 1]? = some C := by
  have e1 : (w.alloc A).heap.size = w.heap.size + 1 := by simp
  have e2 : ((w.alloc A).alloc B).heap.size = w.heap.size + 1 + 1 := by simp
  have n1 := heap_alloc_new (w.alloc A) B
  have n2 := heap_alloc_new ((w.alloc A).alloc B) C
  rw [e1] at n1
  rw [e2] at n2
  have o1 := Below.heap_alloc ((w.alloc A).alloc B) C w.heap.size (by omega)
  have o2 := Below.heap_alloc (w.alloc A) B w.heap.size (by omega)
  have o3 := Below.heap_alloc ((w.alloc A).alloc B) C (w.heap.size + 1) (by omega)
  exact ⟨o1.trans (o2.trans (heap_alloc_new w A)), o3.trans n1, n2⟩

set_option maxHeartbeats 400000 in
theorem new_any (w : World) (n : Nat) (hn : n ≤ 4096) (z : α) (hz : f z = z65) :
    Calls Tryz.prog 47 #[.int .i64 (n : Int)] w fun e w' => ∃ b S, e = .returned (.tuple #[.pointer (some ⟨b, 0, none⟩), .int .i64 0]) ∧ Below w.heap.size w w' ∧ IsDisk f w' S b (Dk.fresh n z) ∧ ∀ i, S i → w.heap.size ≤ i := by
  obtain ⟨Z, hZ⟩ : ∃ Z, Z = madeCells z65.toArray (n * 65) := ⟨_, rfl⟩
  have hmk : ∀ W : World, (Instr.makeSlice 123 (.int .i64 (n : Int)) (.int .i64 (n : Int))).run Tryz.prog W = .ok (.slice (some ⟨W.heap.size, 0, none⟩) n n) (W.alloc (.cells Z 148)) := fun W => by
    rw [hZ]
    exact run_makeSlice W 123 148 Tryz.t148 _ Tryz.underlying123 (by kernel_rfl) zero63 .i64 .i64 (n : Int) (n : Int) (by omega) (by omega) (by show (n : Int).toNat * 65 ≤ _; omega) (by show ((66 : Nat) : Int) * _ ≤ _; omega) (by omega)
  have HZ := Lib.hid hZ
  clear hZ
  have hn1 : ¬ ((n : Int) < 0) := by omega
  have hn2 : ¬ ((4096 : Int) < n) := by omega
  go_enter Tryz.func47, Tryz.ntmps47
  go_wp2
  go_region
  all_goals (go_wp2; go_ret2)
  · obtain ⟨t1, t2, t3⟩ := three_blocks w (.cells Z 148) (.cells Z 148) (.cells #[.slice (some ⟨w.heap.size, 0, none⟩) n n, .slice (some ⟨w.heap.size + 1, 0, none⟩) n n, .slice none 0 0, .bool false, .bool false, .int .i64 0, .int .i64 0] 126)
    exact ⟨w.heap.size + 1 + 1, _, rfl, ((((Below.refl _ w).alloc (Nat.le_refl _) _).alloc (by simp) _).alloc (by simp; omega) _).drew, fresh_disk z hz n hn _ _ w.heap.size (w.heap.size + 1) Z HZ.out t1 t2 (by omega) t3, by
      rintro i (rfl | rfl | rfl | h)
      · omega
      · omega
      · omega
      · cases h⟩
  · obtain ⟨t1, t2, t3⟩ := three_blocks w (.cells Z 148) (.cells Z 148) (.cells #[.slice (some ⟨w.heap.size + 1, 0, none⟩) n n, .slice (some ⟨w.heap.size, 0, none⟩) n n, .slice none 0 0, .bool false, .bool false, .int .i64 0, .int .i64 0] 126)
    exact ⟨w.heap.size + 1 + 1, _, rfl, ((((Below.refl _ w).alloc (Nat.le_refl _) _).alloc (by simp) _).alloc (by simp; omega) _).drew, fresh_disk z hz n hn _ _ (w.heap.size + 1) w.heap.size Z HZ.out t2 t1 (by omega) t3, by
      rintro i (rfl | rfl | rfl | h)
      · omega
      · omega
      · omega
      · cases h⟩

end

end Go.Proofs.YtcjkbmmjpkghlaaGreat
