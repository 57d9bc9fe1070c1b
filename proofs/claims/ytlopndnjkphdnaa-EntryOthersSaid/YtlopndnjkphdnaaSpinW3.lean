/-
  The hash of a text: spin's and the document's own.
-/
import Derived.Test.YtlopndnjkphdnaaSpinW2
namespace Go.Proofs.Ytlopndnjkphdnaa.Spin
open Go.RowKit

/-- A whirl's two cells in block a, a result's cells in block r; nothing that was there has changed. -/
def Hd (w wr : World) (a r : Nat) (X Y : Int) : Prop :=
  wr.cell? ⟨a, 0, none⟩ = some (.int .i64 X) ∧ wr.cell? ⟨a, 1, none⟩ = some (.int .i64 Y) ∧ wr.frozen? ⟨a, 0, none⟩ = false ∧ wr.frozen? ⟨a, 1, none⟩ = false ∧
  (wr.cell? ⟨r, 0, none⟩).isSome = true ∧ (wr.cell? ⟨r, 1, none⟩).isSome = true ∧ wr.frozen? ⟨r, 0, none⟩ = false ∧ wr.frozen? ⟨r, 1, none⟩ = false ∧ Below w.heap.size w wr
section
variable {w wr w2 : World} {a r : Nat} {X Y X' Y' : Int}
theorem Hd.c0 (h : Hd w wr a r X Y) : wr.cell? ⟨a, 0, none⟩ = some (.int .i64 X) := h.1
theorem Hd.c1 (h : Hd w wr a r X Y) : wr.cell? ⟨a, 1, none⟩ = some (.int .i64 Y) := h.2.1
theorem Hd.f0 (h : Hd w wr a r X Y) : wr.frozen? ⟨a, 0, none⟩ = false := h.2.2.1
theorem Hd.f1 (h : Hd w wr a r X Y) : wr.frozen? ⟨a, 1, none⟩ = false := h.2.2.2.1
theorem Hd.r0 (h : Hd w wr a r X Y) : ∃ u, wr.cell? ⟨r, 0, none⟩ = some u := Option.isSome_iff_exists.1 h.2.2.2.2.1
theorem Hd.r1 (h : Hd w wr a r X Y) : ∃ u, wr.cell? ⟨r, 1, none⟩ = some u := Option.isSome_iff_exists.1 h.2.2.2.2.2.1
theorem Hd.g0 (h : Hd w wr a r X Y) : wr.frozen? ⟨r, 0, none⟩ = false := h.2.2.2.2.2.2.1
theorem Hd.g1 (h : Hd w wr a r X Y) : wr.frozen? ⟨r, 1, none⟩ = false := h.2.2.2.2.2.2.2.1
theorem Hd.all (h : Hd w wr a r X Y) : Below w.heap.size w wr := h.2.2.2.2.2.2.2.2
theorem Hd.below (h : Hd w wr a r X Y) (hb : Below wr.heap.size wr w2) : Hd w w2 a r X Y := by
  obtain ⟨h1, h2, h3, h4, h5, h6, h7, h8, h9⟩ := h
  exact ⟨keepC hb (lt_of h1) h1, keepC hb (lt_of h2) h2, keepF hb (lt_of h1) h3, keepF hb (lt_of h2) h4, keepS hb (ltS h5) h5, keepS hb (ltS h6) h6, keepF hb (ltS h5) h7, keepF hb (ltS h6) h8, h9.trans (hb.mono h9.size)⟩
theorem Hd.drew (h : Hd w wr a r X Y) : Hd w wr.drew a r X Y := h.below (Below.refl _ _).drew
theorem Hd.set (h : Hd w wr a r X Y) (hw : w.heap.size ≤ a) : Hd w ((wr.setCell ⟨a, 0, none⟩ (.int .i64 X')).setCell ⟨a, 1, none⟩ (.int .i64 Y')) a r X' Y' := by
  obtain ⟨h1, h2, h3, h4, h5, h6, h7, h8, h9⟩ := h
  have ne : (⟨a, 1, none⟩ : Addr) ≠ ⟨a, 0, none⟩ := fun h => by injection h with _ h; cases h
  have s0 : (wr.cell? ⟨a, 0, none⟩).isSome = true := by rw [h1]; rfl
  have s1 : (wr.cell? ⟨a, 1, none⟩).isSome = true := by rw [h2]; rfl
  refine ⟨?_, ?_, by simpa using h3, by simpa using h4, set_some (set_some h5), set_some (set_some h6), by simpa using h7, by simpa using h8, (h9.setCell hw _).setCell hw _⟩
  · rw [World.cell?_setCell_other _ _ _ _ ne, World.cell?_setCell_same' _ _ _ s0]
  · rw [World.cell?_setCell_same' _ _ _ (set_some s1)]
end

theorem take_snoc (s : ByteArray) (k : Nat) (h : k < s.size) : s.data.toList.take (k + 1) = s.data.toList.take k ++ [s[k]] := by
  rw [List.take_succ_eq_append_getElem (by simpa using h)]; rfl
theorem mX_next (x y : Int) (s : ByteArray) (k : Nat) (h : k < s.size) : mX x y (s.data.toList.take (k + 1)) = pX (tX (mX x y (s.data.toList.take k)) (mY x y (s.data.toList.take k)) 3 2) ((s[k].toNat : Int) + 1) := by
  rw [take_snoc s k h, mX_snoc]
theorem mY_next (x y : Int) (s : ByteArray) (k : Nat) (h : k < s.size) : mY x y (s.data.toList.take (k + 1)) = pX (tY (mX x y (s.data.toList.take k)) (mY x y (s.data.toList.take k)) 3 2) ((s[k].toNat : Int) % 7) := by
  rw [take_snoc s k h, mY_snoc]

theorem start_hd (w : World) (x y : Int) (r0 r1 : Value) (t : TypeId) : Hd w ((w.alloc (.cells #[.int .i64 x, .int .i64 y] t)).alloc (.cells #[r0, r1] t)) w.heap.size (w.heap.size + 1) x y := by
  obtain ⟨w1, h1⟩ : ∃ w1, w1 = w.alloc (.cells #[.int .i64 x, .int .i64 y] t) := ⟨_, rfl⟩
  have s1 : w1.heap.size = w.heap.size + 1 := by rw [h1, size_alloc]
  have ca : ∀ i, w1.cell? ⟨w.heap.size, i, none⟩ = #[Value.int .i64 x, .int .i64 y][i]? := fun i => by rw [h1, cell_new]
  have fa : ∀ i, w1.frozen? ⟨w.heap.size, i, none⟩ = false := fun i => by rw [h1, froz_new]
  rw [← h1, ← s1]
  refine ⟨?_, ?_, ?_, ?_, ?_, ?_, froz_new _ _ _ _, froz_new _ _ _ _, ?_⟩
  · rw [cell_old _ _ (by show w.heap.size < _; omega), ca]; rfl
  · rw [cell_old _ _ (by show w.heap.size < _; omega), ca]; rfl
  · rw [froz_old _ _ (by show w.heap.size < _; omega), fa]
  · rw [froz_old _ _ (by show w.heap.size < _; omega), fa]
  · rw [cell_new]; rfl
  · rw [cell_new]; rfl
  · rw [h1]; exact ((Below.refl _ _).alloc (Nat.le_refl _) _).alloc (by simp) _

set_option maxRecDepth 100000 in
set_option maxHeartbeats 800000 in
theorem more_any (x y : Int) (s : ByteArray) (w : World) (hs : s.size ≤ 9223372036854775807) :
    Calls Try.prog 50 #[.agg #[.int .i64 x, .int .i64 y], .string s] w fun e w' => e = .returned (.agg #[.int .i64 (mX (res x) (res y) s.data.toList), .int .i64 (mY (res x) (res y) s.data.toList)]) ∧ Below w.heap.size w w' := by
  go_enter Try.func50, Try.ntmps50
  go_wp2_with fail
  refine (normal_any x y _).mono ?_
  rintro e w1 ⟨rfl, hb⟩
  have h1 := (start_hd w x y (.int .i64 0) (.int .i64 0) 56).below hb
  have hc0 := h1.c0
  have hc1 := h1.c1
  have hf0 := h1.f0
  have hf1 := h1.f1
  clear hb
  go_wp2_with fail
  clear hc0 hc1 hf0 hf1
  go_loopw [10] (fun i wr => ∃ k : Nat, k ≤ s.size ∧ i = .int .i64 k ∧ Hd w wr w.heap.size (w.heap.size + 1) (mX (res x) (res y) (s.data.toList.take k)) (mY (res x) (res y) (s.data.toList.take k))) (fun i _ => s.size - (intOf i).toNat)
  case atStart => exact ⟨0, Nat.zero_le _, rfl, h1.set (Nat.le_refl _)⟩
  case round =>
    clear h1
    obtain ⟨k, hk, rfl, h⟩ := hrel
    by_cases hlt : k < s.size
    · have HX := Lib.hid (mX_next (res x) (res y) s k hlt)
      have HY := Lib.hid (mY_next (res x) (res y) s k hlt)
      obtain ⟨X, hX⟩ : ∃ X, X = mX (res x) (res y) (s.data.toList.take k) := ⟨_, rfl⟩
      obtain ⟨Y, hY⟩ : ∃ Y, Y = mY (res x) (res y) (s.data.toList.take k) := ⟨_, rfl⟩
      rw [← hX, ← hY] at HX HY h
      clear hX hY
      have hc0 := h.c0
      have hc1 := h.c1
      have hk0 : (0 : Int) ≤ (k : Int) := Int.natCast_nonneg _
      have hk1 : (k : Int) < (s.size : Int) := by omega
      go_wp2_with fail
      go_region_with (first
        | (go_at_call 60; refine (turn_any _ _ _ _ _).mono ?_; rintro e w2 ⟨rfl, hb2⟩; have h2 := h.drew.below hb2)
        | (go_at_call 61; refine (ofByte_any _ _).mono ?_; rintro e w3 ⟨rfl, hb3⟩; have h3 := h2.below hb3)
        | (go_at_call 59; refine (push_any _ _ _ _ _).mono ?_; rintro e w4 ⟨rfl, hb4⟩; have h4 := h3.below hb4; have k0 := h4.c0; have k1 := h4.c1; have l0 := h4.f0; have l1 := h4.f1))
      all_goals
        clear k0 k1 l0 l1 hc0 hc1
        go_wp2_with fail
        go_roundw
        case rel => exact ⟨k + 1, by omega, by go_num, by rw [HX.out, HY.out]; exact h4.set (Nat.le_refl _)⟩
        case measure => simp [intOf]; omega
    · have hk' : k = s.size := by omega
      subst hk'
      have ht : s.data.toList.take s.size = s.data.toList := List.take_of_length_le (by simp)
      rw [ht] at h
      clear ht hlt
      have hc0 := h.c0
      have hc1 := h.c1
      obtain ⟨u0, hr0⟩ := h.r0
      obtain ⟨u1, hr1⟩ := h.r1
      have hg0 := h.g0
      have hg1 := h.g1
      go_wp2_with fail
      exact bodyPost_ret (v := .agg #[.int .i64 (mX (res x) (res y) s.data.toList), .int .i64 (mY (res x) (res y) s.data.toList)]) (by simp [results, Try.results50, go_sem, hr0, hr1]) rfl ⟨rfl, (h.all.setCell (by simp) _).setCell (by simp) _⟩
end Go.Proofs.Ytlopndnjkphdnaa.Spin
