/-
  What JournalAtomic stands on: what there is and what there may be; a text's bytes that are turned sector by sector; rows that are appended.
-/
import Derived.Test.YtnkpmmijdkcdjaaT
import Derived.Deep.Upon
import Derived.Deep.AppendLies
import Derived.Deep.RegionHeld3
import Derived.Laws.IdiomCopy
import Derived.Laws.IdiomStrings
namespace Go.Proofs.Ytnkpmmijdkcdjaa
open Go.RowKit

/-! What there is, and what there may be. -/
section
variable {N q : Nat} {k : Dk Sx} {V M : List Sx}
def St (N : Nat) (k : Dk Sx) (q : Nat) (V M : List Sx) : Prop := (Rest k q ∧ q ≤ N ∧ k.safe.take 12 = V) ∨ (Fell N k (fun X => X = V ∨ X = M) ∧ q ≤ N)
theorem St.state (h : St N k q V M) : State N k q (fun X => X = V ∨ X = M) := by
  rcases h with ⟨h1, h2, h3⟩ | h
  · exact .inl ⟨h1, h2, .inl h3⟩
  · exact .inr h
theorem St.up {N' : Nat} (h : St N k q V M) (hN : N ≤ N') : St N' k q V M := by
  rcases h with ⟨h1, h2, h3⟩ | ⟨h1, h2⟩
  · exact .inl ⟨h1, by omega, h3⟩
  · exact .inr ⟨h1.up hN fun _ h => h, by omega⟩
theorem St.cut (h : St N k q V M) (a : Int) : St N (k.cutAt a) q V M := by
  rcases h with ⟨h1, h2, h3⟩ | ⟨h1, h2⟩
  · left
    have hd := h1.dead
    unfold Dk.cutAt
    rw [hd]
    exact ⟨⟨h1.img, h1.un, rfl⟩, h2, h3⟩
  · right
    have hd := h1.dead
    unfold Dk.cutAt
    rw [hd]
    exact ⟨h1, h2⟩
theorem St.dead (h : St N k q V M) : (k.dead = true ∧ Fell N k (fun X => X = V ∨ X = M) ∧ q ≤ N) ∨ (k.dead = false ∧ Rest k q ∧ q ≤ N ∧ k.safe.take 12 = V) := by
  rcases h with ⟨h1, h2, h3⟩ | ⟨h1, h2⟩
  · exact .inr ⟨h1.dead, h1, h2, h3⟩
  · exact .inl ⟨h1.dead, h1, h2⟩
/-- A commit of what may be committed. -/
theorem Did.exact {sets : List (Int × Nat)} {v : Int} {q' : Nat} {k' : Dk Sx} (h : Did sets q k v q' k') (hok : okSets sets) (hr : Rest k q) (hq : q + 1 < 18446744073709551616) :
    (v = 0 ∧ Rest k' q' ∧ q' ≤ q + 1 ∧ k'.safe.take 12 = puts (k.safe.take 12) (natP sets)) ∨ (v = 6 ∧ Fell (q + 1) k' (fun X => X = k.safe.take 12 ∨ X = puts (k.safe.take 12) (natP sets)) ∧ q' = q) := by
  rcases h with ⟨rfl, rfl, rfl, rfl⟩ | ⟨_, h2, _⟩ | ⟨h1, h2, h3, h4, h5⟩
  · exact .inl ⟨rfl, hr, by omega, rfl⟩
  · exact absurd hok h2
  · rcases commit_spec hr (l := natP sets) (fun e => h1 (List.eq_nil_of_length_eq_zero (by rw [← natP_length, e]; rfl))) (natP_val h2) (by rw [natP_length]; exact h2.1) hq with ⟨f1, f2, f3, f4⟩ | ⟨_, f1, f2⟩
    · rw [f1] at h3
      rw [f1, if_pos rfl] at h5
      subst h4; subst h5; subst h3
      exact .inl ⟨rfl, f2, Nat.le_refl _, by rw [f3, take_after _ hr.img.len, take_puts]⟩
    · rw [f1] at h3
      rw [f1, if_neg (by decide)] at h5
      subst h4; subst h5; subst h3
      refine .inr ⟨rfl, f2.up (Nat.le_refl _) fun X hX => ?_, rfl⟩
      rcases hX with h | h
      · exact .inl h
      · exact .inr (by rw [h, take_puts])
end

/-! The bytes of sectors. -/
theorem bytesOf_cons (c : Sx) (L : List Sx) : bytesOf (c :: L) = c.b ++ bytesOf L := rfl
theorem bytesOf_get (L : List Sx) : ∀ s j : Nat, j < 64 → (bytesOf L)[s * 64 + j]? = L[s]?.bind fun c => c.b[j]? := by
  induction L with
  | nil => intro s j _; simp [bytesOf]
  | cons c L ih =>
    intro s j hj
    rw [bytesOf_cons]
    cases s with
    | zero => rw [List.getElem?_append_left (by rw [c.hb]; omega), Nat.zero_mul, Nat.zero_add]; rfl
    | succ s =>
      rw [List.getElem?_append_right (by rw [c.hb]; omega), c.hb, show (s + 1) * 64 + j - 64 = s * 64 + j by omega, ih s j hj]
      rfl
theorem size_strOf (L : List Sx) : (strOf L).size = L.length * 64 := by
  show (bytesOf L).toArray.size = _
  rw [List.size_toArray, length_bytesOf]
/-- A block whose first cells are the bytes of twelve sectors, and may be written. -/
structure Buf (w : World) (g : Nat) (L : List Sx) : Prop where
  lt : g < w.heap.size
  len : L.length = 12
  cells : ∀ i u, (bytesV (bytesOf L))[i]? = some u → w.cell? ⟨g, i, none⟩ = some u
  free : ∀ i, i < 768 → w.frozen? ⟨g, i, none⟩ = false
  typ : ∃ c fr, w.heap[g]? = some (.cells c 5 fr)
section
variable {w w' : World} {g : Nat} {L : List Sx}
theorem typ_setCells (b : Nat) {e : TypeId} : ∀ (vs : List Value) (o : Nat) (w : World) (c : Array Value) (fr : Nat × Nat), w.heap[b]? = some (.cells c e fr) → ∃ c' fr', (w.setCells b o vs).heap[b]? = some (.cells c' e fr')
  | [], _, _, c, fr, h => ⟨c, fr, h⟩
  | v :: r, o, w, c, fr, h => by
    have h1 : (w.setCell ⟨b, o, none⟩ v).heap[b]? = some (.cells (c.setIfInBounds o v) e fr) := by simp [World.setCell, Array.getElem?_modify, h]
    exact typ_setCells b r (o + 1) _ _ _ h1
theorem lt_of_same (h : g < w.heap.size) (hb : w'.heap[g]? = w.heap[g]?) : g < w'.heap.size := by
  rcases Nat.lt_or_ge g w'.heap.size with h1 | h1
  · exact h1
  · rw [Array.getElem?_eq_none h1, Array.getElem?_eq_getElem h] at hb; cases hb
theorem Buf.keep (h : Buf w g L) (hb : w'.heap[g]? = w.heap[g]?) : Buf w' g L :=
  ⟨lt_of_same h.lt hb, h.len, fun i u hu => (World.cell?_of_block (w := w) hb).trans (h.cells i u hu), fun i hi => (World.frozen?_of_block (w := w) hb).trans (h.free i hi), by obtain ⟨c, fr, h1⟩ := h.typ; exact ⟨c, fr, hb.trans h1⟩⟩
theorem Buf.below (h : Buf w g L) (hb : Below w.heap.size w w') : Buf w' g L := h.keep (hb.block g h.lt)
theorem Buf.total (h : Buf w g L) : (bytesV (bytesOf L)).length = 768 := by rw [length_bytesV, length_bytesOf, h.len]
theorem Buf.isCell (h : Buf w g L) {i : Nat} (hi : i < 768) : (w.cell? ⟨g, i, none⟩).isSome = true := by
  rw [h.cells i _ (List.getElem?_eq_getElem (by rw [h.total]; exact hi))]; rfl
/-- A sector is copied in. -/
theorem Buf.copied (h : Buf w g L) {s : Nat} (hs : s < 12) (c : Sx) : Buf (w.setCells g (s * 64) (bytesV c.b)) g (L.set s c) := by
  have hcl : (bytesV c.b).length = 64 := by rw [length_bytesV, c.hb]
  have hin : ∀ j, j < (bytesV c.b).length → (w.cell? ⟨g, s * 64 + j, none⟩).isSome = true := fun j hj => h.isCell (by omega)
  refine ⟨?_, by rw [List.length_set, h.len], fun i u hu => ?_, fun i hi => (World.frozen?_setCells g _ _ _ _).trans (h.free i hi), by obtain ⟨c0, fr, h1⟩ := h.typ; exact typ_setCells g _ _ _ _ _ h1⟩
  · rcases Nat.lt_or_ge g (w.setCells g (s * 64) (bytesV c.b)).heap.size with h1 | h1
    · exact h1
    · have hc := World.cell?_setCells_in g (bytesV c.b) (s * 64) w hin 0 (by omega)
      have := World.block_lt_of_cell? _ _ hc
      exact this
  · have hi : i < 768 := by
      have := (List.getElem?_eq_some_iff.1 hu).1
      rw [length_bytesV, length_bytesOf, List.length_set, h.len] at this
      exact this
    obtain ⟨a, j, hj, rfl⟩ : ∃ a j, j < 64 ∧ i = a * 64 + j := ⟨i / 64, i % 64, Nat.mod_lt _ (by decide), by omega⟩
    rw [bytesV, List.getElem?_map, bytesOf_get _ _ _ hj] at hu
    by_cases ha : s = a
    · subst ha
      rw [List.getElem?_set, if_pos rfl, if_pos (by rw [h.len]; exact hs)] at hu
      have hc := World.cell?_setCells_in g (bytesV c.b) (s * 64) w hin j (by omega)
      rw [hc]
      have h2 : (bytesV c.b)[j]? = some u := by rw [bytesV, List.getElem?_map]; exact hu
      rw [← List.getElem?_eq_getElem (by omega : j < (bytesV c.b).length), h2]
    · rw [List.getElem?_set, if_neg ha] at hu
      rw [World.cell?_setCells_out g _ _ _ _ (fun _ _ => by
        show a * 64 + j < s * 64 ∨ s * 64 + (bytesV c.b).length ≤ a * 64 + j
        rw [hcl]; omega)]
      refine h.cells _ _ ?_
      rw [bytesV, List.getElem?_map, bytesOf_get _ _ _ hj]
      exact hu
/-- Its text. -/
theorem Buf.text (h : Buf w g L) (c : Nat) : (convert 39 9 (.slice (some ⟨g, 0, none⟩) 768 c)).run Try.prog w = .ok (.string (strOf L)) w :=
  str_of (B := w.heap.size) (by rw [length_bytesOf, h.len]) (.inr ⟨g, 0, rfl, h.lt, fun j u hu => by rw [Nat.zero_add]; exact h.cells j u hu⟩)
end
/-- The world behind a text's conversion to bytes. -/
def convW (w : World) (t : ByteArray) : World :=
  w.drew.alloc (.cells (bytesRow t (grownCap w t.size 0 5)) 5 ((bytesRow t (grownCap w t.size 0 5)).size, (bytesRow t (grownCap w t.size 0 5)).size + 1))
def capW (w : World) (t : ByteArray) : Nat := grownCap w t.size 0 5
theorem run_conv (w : World) (t : ByteArray) : (convert 9 39 (.string t)).run Try.prog w = .ok (.slice (some ⟨w.heap.size, 0, none⟩) t.size (capW w t)) (convW w t) :=
  run_bytes_of_string (P := Try.prog) w 9 39 5 t Try.underlying9 Try.underlying39 Try.underlying5
theorem convW_below (w : World) (t : ByteArray) : Below w.heap.size w (convW w t) := (((Below.refl _ _).drew).alloc (Nat.le_refl _) _)
theorem row_size (t : ByteArray) (cap : Nat) : t.size ≤ (bytesRow t cap).size := by
  unfold bytesRow
  simp
theorem convW_buf (w : World) (L : List Sx) (hl : L.length = 12) : Buf (convW w (strOf L)) w.heap.size L := by
  have hsz : (strOf L).size = 768 := by rw [size_strOf, hl]
  refine ⟨by simp [convW], hl, fun i u hu => ?_, fun i hi => ?_, ⟨_, _, (show _ = _ from heap_alloc_new w.drew _)⟩⟩
  · have hi : i < (strOf L).size := by
      have := (List.getElem?_eq_some_iff.1 hu).1
      rw [length_bytesV, length_bytesOf] at this
      rw [size_strOf]; exact this
    have h := World.cell?_alloc_mark w.drew (bytesRow (strOf L) (grownCap w (strOf L).size 0 5)) 5 ((bytesRow (strOf L) (grownCap w (strOf L).size 0 5)).size, (bytesRow (strOf L) (grownCap w (strOf L).size 0 5)).size + 1) i
    rw [bytesRow_at (strOf L) _ i hi] at h
    refine (show _ = _ from h).trans ?_
    rw [← hu, bytesV, List.getElem?_map]
    have : (strOf L).data.toList = bytesOf L := rfl
    rw [← this, List.getElem?_eq_getElem (by simpa using hi)]
    rfl
  · have h := World.frozen?_alloc_mark w.drew (bytesRow (strOf L) (grownCap w (strOf L).size 0 5)) 5 (bytesRow (strOf L) (grownCap w (strOf L).size 0 5)).size ((bytesRow (strOf L) (grownCap w (strOf L).size 0 5)).size + 1) i
    have := row_size (strOf L) (grownCap w (strOf L).size 0 5)
    rw [show decide ((bytesRow (strOf L) (grownCap w (strOf L).size 0 5)).size ≤ i) = false from decide_eq_false (by omega), Bool.false_and] at h
    exact h

/-! What lies as it lay, but for blocks of some types. -/
def Past (bad : List TypeId) (w w' : World) : Prop := ∀ (t : Nat) (c : Array Value) (e : TypeId) (fr : Nat × Nat), w.heap[t]? = some (.cells c e fr) → e ∉ bad → w'.heap[t]? = some (.cells c e fr)
section
variable {bad : List TypeId} {w w' w2 : World}
theorem Past.refl (w : World) : Past bad w w := fun _ _ _ _ h _ => h
theorem Past.trans (h : Past bad w w') (k : Past bad w' w2) : Past bad w w2 := fun t c e fr h1 h2 => k t c e fr (h t c e fr h1 h2) h2
theorem Past.of_below (h : Below w.heap.size w w') : Past bad w w' := fun t _ _ _ h1 _ => (h.block t (Array.getElem?_eq_some_iff.1 h1).1).trans h1
theorem Past.of_else (h : Else w w') : Past [65, 79, 95, 68] w w' := fun t c e fr h1 h2 => h t _ h1 fun c' e' fr' h3 => by
  cases h3
  simp only [List.mem_cons, List.not_mem_nil, or_false, not_or] at h2
  exact h2
theorem Past.of_grown {base size n : Nat} {e : TypeId} {v : Value} {xs : List Value} (h : w.ownsRow base e size v n xs) (hg : w.grownBy w' v.ownBlock) : Past [e] w w' := fun t c e' fr h1 h2 => by
  refine (hg.block t (Array.getElem?_eq_some_iff.1 h1).1 fun ht => ?_).trans h1
  rcases h.2 with ⟨rfl, _⟩ | ⟨g, cap, cur, rfl, _, hgb, _⟩
  · cases ht
  · cases ht
    rw [h1] at hgb
    cases hgb
    exact h2 (List.mem_singleton.2 rfl)
theorem heap_setCells (b : Nat) : ∀ (vs : List Value) (o : Nat) (w : World) (t : Nat), t ≠ b → (w.setCells b o vs).heap[t]? = w.heap[t]?
  | [], _, _, _, _ => rfl
  | v :: r, o, w, t, h => by rw [World.setCells, heap_setCells b r (o + 1) _ t h]; exact Below.heap_setCell w ⟨b, o, none⟩ v t h
theorem below_setCells {B : Nat} {w0 : World} (b : Nat) (hB : B ≤ b) : ∀ (vs : List Value) (o : Nat) (w : World), Below B w0 w → Below B w0 (w.setCells b o vs)
  | [], _, _, h => h
  | v :: r, o, _w, h => below_setCells b hB r (o + 1) _ (h.setCell (p := ⟨b, o, none⟩) hB v)
theorem Past.bk {g : Nat} {e : TypeId} {cs : List Value} (h : Past bad w w') (hB : Bk w g e cs) (he : e ∉ bad) : Bk w' g e cs := h g _ e _ hB he
theorem Ours.past {B bj bd start n q : Nat} {k : Dk Sx} (h : Ours B w bj bd start n q k) (hp : Past bad w w') (h1 : 65 ∉ bad ∧ 79 ∉ bad ∧ 95 ∉ bad ∧ 68 ∉ bad) : Ours B w' bj bd start n q k := by
  refine h.keep fun t c e fr ht he => (hp t c e fr ht ?_).trans ht.symm
  rcases he with rfl | rfl | rfl | rfl
  · exact h1.1
  · exact h1.2.1
  · exact h1.2.2.1
  · exact h1.2.2.2
end

/-! A row of acts. -/
def Acts2 (w : World) (B g : Nat) (L : List Act) : Prop := (∃ c, w.heap[g]? = some (.cells c 41 (0, 0))) ∧ ∀ i a, L[i]? = some a → a.Good ∧ (∀ j u, a.cells[j]? = some u → w.cell? ⟨g, i * 6 + j, none⟩ = some u) ∧ Sets w B a.lA a.sets
section
variable {bad : List TypeId} {w w' : World} {B g : Nat} {L : List Act}
theorem Acts2.past (h : Acts2 w B g L) (hb : Below B w w') (hp : Past bad w w') (h1 : 41 ∉ bad) : Acts2 w' B g L := by
  obtain ⟨⟨c, hc⟩, h2⟩ := h
  have hc' := hp g c 41 _ hc h1
  refine ⟨⟨c, hc'⟩, fun i a hi => ⟨(h2 i a hi).1, fun j u hu => ?_, (h2 i a hi).2.2.below hb⟩⟩
  exact (World.cell?_of_block (w := w) (a := ⟨g, i * 6 + j, none⟩) (hc'.trans hc.symm)).trans ((h2 i a hi).2.1 j u hu)
theorem Acts2.at (h : Acts2 w B g L) {i : Nat} (hi : i < L.length) : ∃ a, L[i]? = some a ∧ a.Good ∧ Sets w B a.lA a.sets ∧
    w.cell? ⟨g, i * 6, none⟩ = some (.int .u8 (a.kind : Int)) ∧ w.cell? ⟨g, i * 6 + 1, none⟩ = some (.slice a.lA a.ln a.lc) ∧ w.cell? ⟨g, i * 6 + 2, none⟩ = some (.int .i64 a.at_) ∧ w.cell? ⟨g, i * 6 + 3, none⟩ = some (.int .u8 (a.c : Int)) ∧
    w.cell? ⟨g, i * 6 + 4, none⟩ = some (.slice a.bA a.bn a.bc) ∧ w.cell? ⟨g, i * 6 + 5, none⟩ = some (.int .u64 (a.there : Int)) := by
  obtain ⟨hg, hc, hs⟩ := h.2 i _ (List.getElem?_eq_getElem hi)
  exact ⟨_, List.getElem?_eq_getElem hi, hg, hs, hc 0 _ rfl, hc 1 _ rfl, hc 2 _ rfl, hc 3 _ rfl, hc 4 _ rfl, hc 5 _ rfl⟩
theorem Act.cells_one (a : Act) : ∀ u ∈ a.cells, u.oneCell' = true := fun u hu => by
  simp only [Act.cells, List.mem_cons, List.not_mem_nil, or_false] at hu
  rcases hu with rfl | rfl | rfl | rfl | rfl | rfl <;> rfl
def actsV (L : List Act) : List Value := (L.map Act.cells).flatten
theorem length_actsV (L : List Act) : (actsV L).length = L.length * 6 := by
  induction L with
  | nil => rfl
  | cons a L ih => simp only [actsV, List.map_cons, List.flatten_cons, List.length_append, List.length_cons] at ih ⊢; rw [ih]; simp [Act.cells]; omega
theorem actsV_one (L : List Act) : ∀ u ∈ actsV L, u.oneCell' = true := fun u hu => by
  obtain ⟨cs, h1, h2⟩ := List.mem_flatten.1 hu
  obtain ⟨a, _, rfl⟩ := List.mem_map.1 h1
  exact a.cells_one u h2
theorem actsV_append (L M : List Act) : actsV (L ++ M) = actsV L ++ actsV M := by simp [actsV]
/-- The cells of acts that lie. -/
theorem actsV_cells {b o : Nat} (h : ∀ i a, L[i]? = some a → ∀ j u, a.cells[j]? = some u → w.cell? ⟨b, o + i * 6 + j, none⟩ = some u) : ∀ j u, (actsV L)[j]? = some u → w.cell? ⟨b, o + j, none⟩ = some u := by
  induction L generalizing o with
  | nil => intro j u hu; simp [actsV] at hu
  | cons a L ih =>
    intro j u hu
    rw [show actsV (a :: L) = a.cells ++ actsV L from rfl] at hu
    have hl : a.cells.length = 6 := rfl
    rcases Nat.lt_or_ge j 6 with hj | hj
    · rw [List.getElem?_append_left (by omega)] at hu
      have := h 0 a rfl j u hu
      rwa [Nat.zero_mul, Nat.add_zero] at this
    · rw [List.getElem?_append_right (by omega), hl] at hu
      have := ih (o := o + 6) (fun i x hi j u hu => by
        have := h (i + 1) x hi j u hu
        rwa [show o + (i + 1) * 6 + j = o + 6 + i * 6 + j by omega] at this) (j - 6) u hu
      rwa [show o + 6 + (j - 6) = o + j by omega] at this
theorem Acts2.of_owns {base cap : Nat} (h : w.ownsRow base 41 6 (.slice (some ⟨g, 0, none⟩) L.length cap) L.length (actsV L)) (hg : ∀ a ∈ L, a.Good ∧ Sets w B a.lA a.sets) : Acts2 w B g L := by
  have hrow := Row.of_owns (L := L.map Act.cells) (n := L.length) h (by simp) (fun c hc => by obtain ⟨a, _, rfl⟩ := List.mem_map.1 hc; rfl) (fun c hc => by obtain ⟨a, _, rfl⟩ := List.mem_map.1 hc; exact a.cells_one)
  obtain ⟨c, hc⟩ := hrow.elemType
  refine ⟨⟨c, hc⟩, fun i a hi => ⟨(hg a (List.mem_of_getElem? hi)).1, fun j u hu => ?_, (hg a (List.mem_of_getElem? hi)).2⟩⟩
  exact (hrow.elem i a.cells (by rw [List.getElem?_map, hi]; rfl)).2.2 j u hu
end

/-! A row of sets that are appended one by one. -/
def setV (s : Int × Nat) : List Value := [.int .i64 s.1, .int .u8 (s.2 : Int)]
def setsV (L : List (Int × Nat)) : List Value := (L.map setV).flatten
theorem setV_one (s : Int × Nat) : ∀ u ∈ setV s, u.oneCell' = true := fun u hu => by
  simp only [setV, List.mem_cons, List.not_mem_nil, or_false] at hu
  rcases hu with rfl | rfl <;> rfl
theorem setsV_snoc (L : List (Int × Nat)) (s : Int × Nat) : setsV (L ++ [s]) = setsV L ++ [.int .i64 s.1, .int .u8 (s.2 : Int)] := by simp [setsV, setV]
def SRow (base : Nat) (w : World) (v : Value) (so : List (Int × Nat)) : Prop := w.ownsRow base 43 2 v so.length (setsV so)
section
variable {bad : List TypeId} {base : Nat} {w w' : World} {v : Value} {so : List (Int × Nat)}
theorem SRow.nil (base : Nat) (w : World) : SRow base w (.slice none 0 0) [] := World.ownsRow_nil _ _ _ _
theorem SRow.past (h : SRow base w v so) (hp : Past bad w w') (h1 : 43 ∉ bad) : SRow base w' v so := by
  refine ⟨h.1, ?_⟩
  rcases h.2 with h2 | ⟨g, cap, cur, hv, hb, hg, h3⟩
  · exact .inl h2
  · exact .inr ⟨g, cap, cur, hv, hb, hp g cur 43 _ hg h1, h3⟩
theorem SRow.form (h : SRow base w v so) : ∃ A c, v = .slice A so.length c ∧ so.length ≤ c ∧ c ≤ maxLen ∧ Sets w w.heap.size A so := by
  rcases h.2 with ⟨rfl, h0⟩ | ⟨g, cap, cur, rfl, hb, hgb, hc, hm, _⟩
  · exact ⟨none, 0, by rw [h0], by omega, Nat.zero_le _, fun i s hs => by
      have := (List.getElem?_eq_some_iff.1 hs).1
      omega⟩
  · refine ⟨some ⟨g, 0, none⟩, cap, rfl, hc, hm, fun i s hs => ?_⟩
    have hrow := Row.of_owns (L := so.map setV) (n := so.length) h (by simp) (fun c hc => by obtain ⟨a, _, rfl⟩ := List.mem_map.1 hc; rfl) (fun c hc => by obtain ⟨a, _, rfl⟩ := List.mem_map.1 hc; exact setV_one a)
    have hr := (hrow.elem i (setV s) (by rw [List.getElem?_map, hs]; rfl)).2.2
    exact ⟨g, 0, rfl, (Array.getElem?_eq_some_iff.1 hgb).1, by rw [Nat.zero_add]; exact hr 0 _ rfl, by rw [Nat.zero_add]; exact hr 1 _ rfl⟩
end
theorem info41 : (Try.prog.info? 41).map (fun i => (i.zero, i.size, i.bytes)) = some (some (.agg #[.int .u8 0, .slice none 0 0, .int .i64 0, .int .u8 0, .slice none 0 0, .int .u64 0]), 6, 80) := by kernel_rfl
theorem info43 : (Try.prog.info? 43).map (fun i => (i.zero, i.size, i.bytes)) = some (some (.agg #[.int .i64 0, .int .u8 0]), 2, 16) := by kernel_rfl

theorem Buf.past {bad : List TypeId} {w w' : World} {g : Nat} {L : List Sx} (h : Buf w g L) (hp : Past bad w w') (h1 : 5 ∉ bad) : Buf w' g L := by
  obtain ⟨c, fr, hc⟩ := h.typ
  exact h.keep ((hp g c 5 fr hc h1).trans hc.symm)
theorem Buf.over {w : World} {g : Nat} {L : List Sx} (h : Buf w g L) (o : Nat) (vs : List Value) : Past [5] w (w.setCells g o vs) := fun t c e fr h1 h2 => by
  refine (heap_setCells g vs o w t fun ht => ?_).trans h1
  subst ht
  obtain ⟨c0, fr0, hc⟩ := h.typ
  rw [hc] at h1
  cases h1
  exact h2 (List.mem_singleton.2 rfl)
theorem Past.drew {bad : List TypeId} {w w' : World} (h : Past bad w w') : Past bad w w'.drew := h

/-- One more sector is copied in: a step of a region that draws its order. -/
theorem step_copy_buf {ops : Array Oper} {o : Oper} {a : Go.Act} {w : World} {K : Go.Act → World → Prop} {Q : Exit → Go.Act → World → Prop} {E : Prop} (hgd : o.guard = none) (d s : Operand)
    (ho : o.op = .call { callee := .builtin .copy, args := #[d, s], argTypes := #[39, 39] }) {g at_ ln cd gp cp : Nat} (hd : a.eval d = .slice (some ⟨g, at_, none⟩) ln cd) (hln : ln = 64) (hs : a.eval s = .slice (some ⟨gp, 0, none⟩) 64 cp)
    (L : List Sx) (hB : Buf w g L) (n : Nat) (hn : n < 12) (hat : at_ = n * 64) (c : Sx) (hP : ∀ j u, (bytesV c.b)[j]? = some u → w.cell? ⟨gp, j, none⟩ = some u)
    (h : K (a.put o.dst (goInt 64)) (w.setCells g (n * 64) (bytesV c.b))) :
    if Region.wanted o (yielded ops a.tmps) = true then Oper.wp Try.prog o a w K Q else E := by
  have hw : Region.wanted o (yielded ops a.tmps) = true := by simp [Region.wanted, hgd]
  rw [if_pos hw]
  subst hat hln
  have hcl : (bytesV c.b).length = 64 := by rw [length_bytesV, c.hb]
  have hrun := run_copy_cells (P := Try.prog) w 39 39 o.type 5 g (n * 64) 64 cd ⟨gp, 0, none⟩ 64 cp (bytesV c.b) Try.underlying39 (by kernel_rfl) (by rw [hcl]; rfl)
    (fun j v hv => by rw [show (⟨gp, 0, none⟩ : Addr).add j = ⟨gp, j, none⟩ by unfold Addr.add; split <;> simp_all]; exact hP j v hv)
    (fun j hj => hB.isCell (by omega)) (fun j hj => hB.free _ (by omega)) (bytesV_one _)
  unfold Oper.wp
  simp only [execOp, ho, resolve, invoke, builtin, hd, hs, Sem.run_bind, Sem.run_pure, Result.andThen_ok, List.map_toArray, List.map_cons, List.map_nil, hrun]
  rw [hcl]
  exact h

/-- 'append' onto a row, of elements that lie, or of none. -/
theorem wpList_append_more {P : Program} {w : World} {ops : Array Oper} {rest : List Oper} {o : Oper} {a : Go.Act} {Q : Exit → Go.Act → World → Prop} (hgd : o.guard = none) (s x : Operand) (t : TypeId)
    (ho : o.op = .call { callee := .builtin .append, args := #[s, x], argTypes := #[t, t] })
    (base : Nat) (e : TypeId) (i : TypeInfo) (z : Value) (size bytes : Nat) (ht : P.underlying t = some (.slice e)) (hi : P.info? e = some i) (hz : i.zero = some z)
    (hsize : i.size = size) (hby : i.bytes = bytes) (hzs : z.cells.size = size) (hsz : 0 < size)
    (g0 c0 n : Nat) (xs : List Value) (hs : a.eval s = .slice (some ⟨g0, 0, none⟩) n c0) (hown : w.ownsRow base e size (.slice (some ⟨g0, 0, none⟩) n c0) n xs)
    (A : Option Addr) (m c : Nat) (news : List Value) (hx : a.eval x = .slice A m c) (hl : news.length = m * size) (hnews : 0 < m → ∃ ad, A = some ad ∧ ∀ j u, news[j]? = some u → w.cell? (ad.add j) = some u) (h1 : ∀ u ∈ news, u.oneCell' = true)
    (h63 : n + m ≤ maxLen) (hbytes : (n + m) * bytes ≤ 140737488355328) (hbase : base ≤ w.heap.size)
    (h : ∀ g cap w', w'.ownsRow base e size (.slice (some ⟨g, 0, none⟩) (n + m) cap) (n + m) (xs ++ news) → w.grownBy w' (some g0) → (g = g0 ∨ g = w.heap.size) → g < w'.heap.size → wpList P ops Q rest (a.put o.dst (.slice (some ⟨g, 0, none⟩) (n + m) cap)) w') : wpList P ops Q (o :: rest) a w := by
  by_cases hm : 0 < m
  · obtain ⟨ad, rfl, hn⟩ := hnews hm
    refine wpList_append_lies (w := w) hgd s x t ho base e i z size bytes ht hi hz hsize hby hzs hsz _ n xs hs hown ad m c news hx hl hn h1 hm h63 hbytes hbase w.heap.size rfl fun g cap w' a1 a2 a3 a4 => h g cap w' a1 a2 ?_ a4
    rcases a3 with a3 | a3
    · exact .inl (by injection a3 with a3; exact a3.symm)
    · exact .inr a3
  · obtain rfl : m = 0 := by omega
    obtain rfl : news = [] := List.eq_nil_of_length_eq_zero (by omega)
    have hle : n ≤ c0 := by
      rcases hown.2 with ⟨hv, _⟩ | ⟨g, cap, cur, hv, _, _, hc, _⟩
      · cases hv
      · cases hv; exact hc
    have hlt : g0 < w.heap.size := by
      rcases hown.2 with ⟨hv, _⟩ | ⟨g, cap, cur, hv, _, hgb, _⟩
      · cases hv
      · cases hv; exact (Array.getElem?_eq_some_iff.1 hgb).1
    have hsrc : Src P i.size t (.slice A 0 c) 0 [] w := by
      cases A with
      | none => exact Src.ofNil w ht c
      | some ad => exact Src.ofSlice w ht ad 0 c [] (by simp) (fun j u hu => by simp at hu) (fun u hu => by cases hu)
    refine wpList_plain hgd fun K hK => ?_
    have hrun := run_append_nothing (P := P) w t t o.type e i ht hi (some ⟨g0, 0, none⟩) n c0 hle (.slice A 0 c) hsrc
    unfold Oper.wp
    simp only [execOp, ho, resolve, invoke, builtin, hs, hx, Sem.run_bind, Sem.run_pure, Result.andThen_ok, List.map_toArray, List.map_cons, List.map_nil, hrun]
    exact hK _ _ (h g0 c0 w (by simpa using hown) ⟨rfl, rfl, rfl, Nat.le_refl _, fun _ _ _ => rfl⟩ (.inl rfl) hlt)
end Go.Proofs.Ytnkpmmijdkcdjaa
