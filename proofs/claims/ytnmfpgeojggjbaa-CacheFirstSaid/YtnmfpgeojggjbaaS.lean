/-
  Slices of ints of the call's own: the library's functions on them (Index, Delete, Clone, Reverse, Sort, IndexFunc), append, and whether two are alike.
-/
import Derived.Test.YtnmfpgeojggjbaaRows
import Derived.Test.YtnmfpgeojggjbaaD
import Derived.Test.YtnmfpgeojggjbaaShelf
import Derived.Sort.OwnSortedInts
import Derived.Shelf.Slices.In.SortNone
import Derived.WalkKit
import Derived.WalkSpells
import Derived.Lib.Hide
import Derived.Deep.LoopGhost
import Derived.Maps.AppendAt
namespace Go.Proofs.Ytnmfpgeojggjbaa
open Go.RowKit Go.Sort

def intV (x : Int) : Value := .int .i64 x
def intsV (l : List Int) : List Value := l.map (Value.int .i64)
theorem length_intsV (l : List Int) : (intsV l).length = l.length := by simp [intsV]
/-- A slice of ints in a row of the call's own. -/
def Ints (w : World) (base : Nat) (v : Value) (l : List Int) : Prop := w.ownsRow base 3 1 v l.length (intsV l)

section
variable {w w' : World} {base : Nat} {v : Value} {l : List Int}
theorem Ints.nil (w : World) (base : Nat) : Ints w base (.slice none 0 0) [] := ⟨rfl, .inl ⟨rfl, rfl⟩⟩
theorem Ints.shape (h : Ints w base v l) : (v = .slice none 0 0 ∧ l = []) ∨ ∃ g c cur, v = .slice (some ⟨g, 0, none⟩) l.length c ∧ base ≤ g ∧ w.heap[g]? = some (.cells cur 3 (0, 0)) ∧ l.length ≤ c ∧ c ≤ maxLen ∧ cur.size = c * 1 ∧ cur.toList.take l.length = intsV l := by
  rcases h.2 with ⟨h1, h2⟩ | ⟨g, c, cur, h1, h2, h3, h4, h5, h6, h7⟩
  · exact .inl ⟨h1, List.eq_nil_of_length_eq_zero h2⟩
  · exact .inr ⟨g, c, cur, h1, h2, h3, h4, h5, h6, by simpa using h7⟩
theorem Ints.len (h : Ints w base v l) : ∃ A c, v = .slice A l.length c ∧ l.length ≤ c ∧ c ≤ maxLen := by
  rcases h.shape with ⟨rfl, rfl⟩ | ⟨g, c, cur, h1, _, _, h4, h5, _⟩
  · exact ⟨none, 0, rfl, Nat.le_refl _, Nat.zero_le _⟩
  · exact ⟨_, c, h1, h4, h5⟩
theorem Ints.keep (h : Ints w base v l) (hb : ∀ g, v.ownBlock = some g → w'.heap[g]? = w.heap[g]?) : Ints w' base v l := by
  refine ⟨h.1, ?_⟩
  rcases h.2 with h | ⟨g, c, cur, rfl, h2, h3, h4⟩
  · exact .inl h
  · exact .inr ⟨g, c, cur, rfl, h2, (hb g rfl).trans h3, h4⟩
theorem Ints.lt (h : Ints w base v l) {g : Nat} (hg : v.ownBlock = some g) : g < w.heap.size ∧ base ≤ g ∧ ∃ cur, w.heap[g]? = some (.cells cur 3 (0, 0)) := by
  rcases h.2 with ⟨rfl, _⟩ | ⟨g', c, cur, rfl, h2, h3, _⟩
  · cases hg
  · cases hg
    exact ⟨(Array.getElem?_eq_some_iff.1 h3).1, h2, cur, h3⟩
theorem Ints.below (h : Ints w base v l) (hb : Below w.heap.size w w') : Ints w' base v l := h.keep fun _ hg => hb.block _ (h.lt hg).1
theorem Ints.more (h : Ints w base v l) {base' : Nat} (hb : base' ≤ base) : Ints w base' v l := own_mono h hb
/-- A higher base, if its block lies there. -/
theorem Ints.at {base' : Nat} (h : Ints w base v l) (hb : ∀ g, v.ownBlock = some g → base' ≤ g) : Ints w base' v l := by
  refine ⟨h.1, ?_⟩
  rcases h.2 with h | ⟨g, c, cur, rfl, h2, h3⟩
  · exact .inl h
  · exact .inr ⟨g, c, cur, rfl, hb g rfl, h3⟩
theorem Ints.get (h : Ints w base v l) {i : Nat} (hi : i < l.length) : ∃ g c, v = .slice (some ⟨g, 0, none⟩) l.length c ∧ w.cell? ⟨g, i, none⟩ = some (.int .i64 l[i]) ∧ w.frozen? ⟨g, i, none⟩ = false := by
  rcases h.shape with ⟨rfl, rfl⟩ | ⟨g, c, cur, h1, _, h3, h4, h5, h6, h7⟩
  · simp at hi
  · have hH := holds_of_blockI (ss := l) h3 h7 i (by simpa using hi)
    refine ⟨g, c, h1, ?_, ?_⟩
    · simpa [hi] using hH.1
    · simpa using hH.2
theorem Ints.at2 (h : Ints w base v l) {g c : Nat} (hv : v = .slice (some ⟨g, 0, none⟩) l.length c) : ∀ j, j < l.length → w.cell? ⟨g, 0 + j, none⟩ = some (.int .i64 (l.getD j 0)) := fun j hj => by
  obtain ⟨g', c', h1, h2, _⟩ := h.get hj
  subst hv
  cases h1
  simpa [List.getD_eq_getElem?_getD, List.getElem?_eq_getElem hj] using h2

theorem idx_none (l : List Int) (x : Int) (h : x ∉ l) : Lib.idxOf l x = -1 := by
  have := Lib.idxOf_miss l l.length x fun j hj e => h (by
    rw [List.getD_eq_getElem?_getD, List.getElem?_eq_getElem hj] at e
    exact List.mem_of_getElem e)
  simpa using this
theorem idx_some (a b : List Int) (x : Int) (h : x ∉ a) : Lib.idxOf (a ++ x :: b) x = (a.length : Int) := by
  have := Lib.idxOf_hit (a ++ x :: b) (a ++ x :: b).length a.length x (by simp) (Nat.le_refl _) (by simp [List.getD_eq_getElem?_getD]) fun j hj e => h (by
    rw [List.getD_eq_getElem?_getD, List.getElem?_append_left hj, List.getElem?_eq_getElem hj] at e
    exact List.mem_of_getElem e)
  rwa [List.take_length] at this

theorem index_any (x : Int) (h : Ints w base v l) : Calls Try.prog 36 #[v, .int .i64 x] w fun e w' => e = .returned (.int .i64 (Lib.idxOf l x)) ∧ w' = w := by
  rcases h.shape with ⟨rfl, rfl⟩ | ⟨g, c, cur, rfl, h2, h3, h4, h5, h6, h7⟩
  · exact Any.slices_Index_int_empty Try.lays108 none 0 x w
  · have := Any.slices_Index_int Try.lays108 g 0 l.length c l x w (Nat.le_refl _) (by unfold maxLen at h5; omega) (h.at2 rfl)
    rw [List.take_length] at this
    exact this

theorem delete_any (a b : List Int) (x : Int) (h : Ints w base v (a ++ x :: b)) (j : Int) (hj : j = (a.length : Int) + 1) :
    Calls Try.prog 37 #[v, .int .i64 (a.length : Int), .int .i64 j] w fun e w' => ∃ v', e = .returned v' ∧ v'.ownBlock = v.ownBlock ∧ Ints w' base v' (a ++ b) ∧ w.grownBy w' v.ownBlock := by
  subst hj
  rcases h.shape with ⟨rfl, h0⟩ | ⟨g, c, cur, rfl, h2, h3, h4, h5, h6, h7⟩
  · simp at h0
  · have hc := Any.slices_Delete_int Try.laysNm223 g 0 c a.length (a.length + 1) (a ++ x :: b) w (holds_of_blockI h3 h7) h4 (by unfold maxLen at h5; omega) (by omega) (by simp)
    have e1 : (a.length : Int) + 1 = ((a.length + 1 : Nat) : Int) := by omega
    rw [e1]
    refine hc.mono ?_
    rintro e w' ⟨rfl, q, rfl⟩
    have e2 : (a ++ x :: b).take a.length ++ (a ++ x :: b).drop (a.length + 1) ++ List.replicate (a.length + 1 - a.length) 0 = a ++ b ++ [0] := by
      have : (a ++ x :: b).drop (a.length + 1) = b := by
        rw [← List.drop_drop, List.drop_left]; rfl
      rw [List.take_left, this, show a.length + 1 - a.length = 1 by omega]; rfl
    rw [e2]
    have e3 : (a ++ x :: b).length - (a.length + 1 - a.length) = (a ++ b).length := by simp <;> omega
    have hs := ownsRow_sortedI (base := base) (g := g) (cap := c) (n := q) (os := #[]) (e := 3) (ss := a ++ x :: b) (ts := a ++ b ++ [0]) (by simp) h2 h3 h4 h5 h6
    have hgr := grownBy_sortedI (w := w) (g := g) (n := q) (os := #[]) (a ++ b ++ [0]).toArray
    have e4 : ∀ W : World, grow W #[] = W := fun W => by simp [grow]
    rw [e4] at hs hgr
    refine ⟨_, rfl, rfl, ?_, hgr⟩
    rw [e3]
    refine ⟨by simp [intsV], ?_⟩
    rcases hs.2 with ⟨k1, k2⟩ | ⟨g', c', cur', k1, k2, k3, k4, k5, k6, k7⟩
    · cases k1
    · cases k1
      refine .inr ⟨g, c, cur', rfl, k2, k3, by simp at k4 ⊢; omega, k5, k6, ?_⟩
      have := congrArg (List.take (a ++ b).length) k7
      rw [List.take_take] at this
      have e5 : (a ++ b).length = min (a ++ b).length ((a ++ x :: b).length * 1) := by simp
      have e6 : (List.map (Value.int .i64) (a ++ b ++ [0])).take (a ++ b).length = intsV (a ++ b) := by
        rw [List.map_append]
        exact List.take_left' (by simp)
      rw [Nat.mul_one, e5, this, e6]

theorem clone_any (h : Ints w base v l) (hl : l.length ≤ 1000000) : Calls Try.prog 30 #[v] w fun e w' => ∃ v', e = .returned v' ∧ Ints w' w.heap.size v' l ∧ Below w.heap.size w w' := by
  rcases h.shape with ⟨rfl, rfl⟩ | ⟨g, c, cur, rfl, h2, h3, h4, h5, h6, h7⟩
  · refine (Any.slices_Clone_int_nil Try.laysNm215 0 0 w).mono ?_
    rintro e w' ⟨rfl, rfl⟩
    exact ⟨_, rfl, Ints.nil _ _, Below.refl _ _⟩
  · refine (Any.slices_Clone_int Try.laysNm215 g 0 l.length c l w (Nat.le_refl _) (by omega) (h.at2 rfl)).mono ?_
    rintro e w' ⟨v', rfl, hown, _, hb⟩
    rw [List.take_length] at hown
    exact ⟨v', rfl, hown, hb⟩

theorem reverse_any (h : Ints w base v l) : Calls Try.prog 31 #[v] w fun e w' => e = .returned (.tuple #[]) ∧ Ints w' base v l.reverse ∧ w.grownBy w' v.ownBlock := by
  rcases h.shape with ⟨rfl, rfl⟩ | ⟨g, c, cur, rfl, h2, h3, h4, h5, h6, h7⟩
  · refine (Any.slices_Reverse_int_empty Try.lays112 none 0 w).mono ?_
    rintro e w' ⟨rfl, rfl⟩
    exact ⟨rfl, Ints.nil _ _, World.grownBy.refl _ _⟩
  · refine (Any.slices_Reverse_int Try.lays112 g 0 c l w (holds_of_blockI h3 h7) (by unfold maxLen at h5; omega)).mono ?_
    rintro e w' ⟨rfl, q, rfl⟩
    have hs := ownsRow_sortedI (base := base) (g := g) (cap := c) (n := q) (os := #[]) (e := 3) (ss := l) (ts := l.reverse) (by simp) h2 h3 h4 h5 h6
    have hgr := grownBy_sortedI (w := w) (g := g) (n := q) (os := #[]) l.reverse.toArray
    have e4 : ∀ W : World, grow W #[] = W := fun W => by simp [grow]
    rw [e4] at hs hgr
    exact ⟨rfl, by simpa [Ints, intsV] using hs, hgr⟩

theorem sort_any (h : Ints w base v l) (hl : l.length ≤ 1000000) : Calls Try.prog 33 #[v] w fun e w' => ∃ l', e = .returned (.tuple #[]) ∧ l'.Perm l ∧ Ints w' base v l' ∧ w.grownBy w' v.ownBlock := by
  rcases h.shape with ⟨rfl, rfl⟩ | ⟨g, c, cur, rfl, h2, h3, h4, h5, h6, h7⟩
  · refine (Any.slices_Sort_int_none Try.lays189 none 0 w).mono ?_
    rintro e w' ⟨rfl, rfl⟩
    exact ⟨[], rfl, List.Perm.refl _, Ints.nil _ _, World.grownBy.refl _ _⟩
  · refine (Any.slices_Sort_int Try.lays189 g 0 c l w (holds_of_blockI h3 h7) (Array.getElem?_eq_some_iff.1 h3).1 (by omega)).mono ?_
    rintro e w' ⟨rfl, n, os, rfl⟩
    have hs := ownsRow_sortedI (base := base) (g := g) (cap := c) (n := n) (os := os) (e := 3) (ss := l) (ts := l.mergeSort fun x y => decide (x ≤ y)) (by simp) h2 h3 h4 h5 h6
    exact ⟨_, rfl, List.mergeSort_perm _ _, by simpa [Ints, intsV] using hs, grownBy_sortedI _⟩

/-- The place of the first that is so, or -1. -/
def firstAt (p : Int → Bool) (l : List Int) : Int := match l.findIdx? p with | none => -1 | some i => (i : Int)

theorem indexFunc_any (p : Int → Bool) (B : Value) (h : Ints w base v l) (hp : ∀ x ∈ l, Calls Try.prog 39 #[.int .i64 x, B] w fun e w' => e = .returned (.bool (p x)) ∧ w = w') :
    Calls Try.prog 38 #[v, .func (.func 39) #[] #[B]] w fun e w' => e = .returned (.int .i64 (firstAt p l)) ∧ w = w' := by
  obtain ⟨A, c, rfl, h1, h2⟩ := h.len
  have H := Lib.hid h
  have Hp := Lib.hid hp
  unfold maxLen at h2
  clear h hp
  obtain ⟨n, hn⟩ : ∃ n, n = l.length := ⟨_, rfl⟩
  have Hn := Lib.hid hn
  rw [← hn] at h1 ⊢
  clear hn
  go_enter Try.func38, Try.ntmps38
  go_wp2
  go_loopw [5, 8] (fun _ i wr => ∃ j : Nat, j ≤ n ∧ i = .int .i64 (j : Int) ∧ wr = w ∧ Hid (∀ k, (hk : k < l.length) → k < j → p l[k] = false)) (fun _ i _ => n - (intOf i).toNat)
  case atStart => exact ⟨0, Nat.zero_le _, rfl, rfl, fun k _ hk => absurd hk (Nat.not_lt_zero _)⟩
  case round =>
    obtain ⟨j, hj, rfl, rfl, hf⟩ := hrel
    by_cases hlt : j < n
    · have hjl : j < l.length := by rw [← Hn.out]; exact hlt
      obtain ⟨g, c', hv, hc, _⟩ := H.out.get hjl
      cases hv
      obtain ⟨x, hx⟩ : ∃ x, x = l[j] := ⟨_, rfl⟩
      rw [← hx] at hc
      have Hx := Lib.hid hx
      have hq := Hp.out x (by rw [hx]; exact List.getElem_mem hjl)
      clear hx
      cases hpx : p x
      · rw [hpx] at hq
        have Hpx := Lib.hid hpx
        clear hpx
        go_wp2_with (go_at_call 39; refine hq.mono ?_; rintro e w' ⟨rfl, rfl⟩)
        go_roundw
        case rel => exact ⟨j + 1, by omega, by go_num, by first | trivial | rfl, fun k hk hkj => by
          by_cases e : k = j
          · subst e; rw [← Hx.out]; exact Hpx.out
          · exact hf.out k hk (by omega)⟩
        case measure => simp [intOf]; omega
      · rw [hpx] at hq
        have Hpx := Lib.hid hpx
        clear hpx
        go_wp2_with (go_at_call 39; refine hq.mono ?_; rintro e w' ⟨rfl, rfl⟩)
        go_ret
        refine ⟨?_, by first | trivial | rfl⟩
        have hjl : j < l.length := by rw [← Hn.out]; exact hlt
        have : l.findIdx? p = some j := by
          rw [List.findIdx?_eq_some_iff_getElem]
          exact ⟨hjl, by rw [← Hx.out]; exact Hpx.out, fun k hk => by simp [hf.out k (by omega) hk]⟩
        simp [firstAt, this]
    · obtain rfl : j = n := by omega
      go_wp2
      go_ret
      refine ⟨?_, by first | trivial | rfl⟩
      have : l.findIdx? p = none := by
        rw [List.findIdx?_eq_none_iff]
        intro x hx
        obtain ⟨k, hk, rfl⟩ := List.getElem_of_mem hx
        exact hf.out k hk (by rw [Hn.out]; exact hk)
      simp [firstAt, this]
end

/-- 'append(v, z)'. -/
theorem wpList_snoc (w : World) {ops : Array Oper} {rest : List Oper} {o : Oper} {a : Act} {Q : Exit → Act → World → Prop} (hgd : o.guard = none) (s x : Operand)
    (ho : o.op = .call { callee := .builtin .append, args := #[s, x], argTypes := #[47, 47] }) (base : Nat) (v : Value) (l : List Int) (hs : a.eval s = v) (h : Ints w base v l)
    (g : Nat) (z : Int) (hx : a.eval x = .slice (some ⟨g, 0, none⟩) 1 1) (hc : w.cell? ⟨g, 0, none⟩ = some (.int .i64 z)) (hl : l.length ≤ 1000000) (hbase : base ≤ w.heap.size)
    (hK : ∀ v' w', Ints w' base v' (l ++ [z]) → w.grownBy w' v.ownBlock → (v'.ownBlock = v.ownBlock ∨ v'.ownBlock = some w.heap.size) → wpList Try.prog ops Q rest (a.put o.dst v') w') :
    wpList Try.prog ops Q (o :: rest) a w := by
  obtain ⟨i0, hi, hz0, hz1, hz2⟩ := info_parts (P := Try.prog) (e := 3) (z := .int .i64 0) (size := 1) (bytes := 8) (by kernel_rfl)
  refine wpList_append_own_at w hgd s x 47 ho base 3 i0 (.int .i64 0) 1 8 Try.underlying47 hi hz0 hz1 hz2 rfl (by decide) v l.length (intsV l) hs h ⟨g, 0, none⟩ 1 1 [.int .i64 z] hx rfl (fun j u hj => ?_) (fun u hu => ?_) (by unfold maxLen; omega) (by omega) hbase fun v' w' h1 h2 _ h4 => hK v' w' ?_ h2 h4
  · match j, hj with
    | 0, hj =>
      simp at hj
      subst hj
      simpa [Addr.add] using hc
  · obtain rfl : u = .int .i64 z := by simpa using hu
    rfl
  · have e1 : (l ++ [z]).length = l.length + 1 := by simp
    have e2 : intsV (l ++ [z]) = intsV l ++ [.int .i64 z] := by simp [intsV]
    unfold Ints
    rw [e1, e2]
    exact h1
end Go.Proofs.Ytnmfpgeojggjbaa
