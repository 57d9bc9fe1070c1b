/-
  A new disk; a sector's bytes and its tag.
-/
import Derived.Test.YtnkpmmijdkcdjaaU0
import Derived.Deep.RegionHeld3
import Derived.Deep.WholeRow
import Derived.Deep.DrawnRows
import Derived.RegionTactic
import Derived.BigRegion
namespace Go.Proofs.Ytnkpmmijdkcdjaa
open Go.RowKit
attribute [local go_sem ↓] Go.wp_at_zero Go.wp_at_succ

section
variable {α : Type} {f : α → List Value}

theorem size61 : (Try.prog.info? 77).map (·.size) = some 64 := by kernel_rfl
theorem size63 : (Try.prog.info? 79).map (·.size) = some 65 := by kernel_rfl
theorem size65 : (Try.prog.info? 95).map (·.size) = some 66 := by kernel_rfl

set_option maxHeartbeats 400000 in
theorem tag_any (w : World) (S : Nat → Prop) (b : Nat) (k : Dk α) (h : IsDisk f w S b k) (s : Nat) (c : α) (bs' : List Value) (t : Value) (hc : k.now[s]? = some c) (hf : f c = bs' ++ [t]) (hl : bs'.length = 64) (hd : k.dead = false) :
    Calls Try.prog 25 #[.pointer (some ⟨b, 0, none⟩), .int .i64 (s : Int)] w fun e w' => e = .returned (.tuple #[t, .int .i64 0]) ∧ w = w' := by
  obtain ⟨bn, bs, cn, cs, vu, rfl, hm⟩ := h
  have hs : s < k.now.length := (List.getElem?_eq_some_iff.1 hc).1
  have he : k.err s = 0 := by
    have := hm.len
    simp [Dk.err, Dk.has, hd]
    omega
  have h0 := hm.nowC
  have ht : w.cell? ⟨bn, s * 65 + 64, none⟩ = some t := by
    have := (hm.nowR.elem s (f c) (by rw [List.getElem?_map, hc]; rfl)).2.2 64 t (by rw [hf, List.getElem?_append_right (by omega), hl]; rfl)
    exact this
  have H := Lib.hid hm
  have He := Lib.hid he
  have hs' : (s : Int) < (k.now.length : Int) := by omega
  generalize k.now.length = n at *
  clear hm he hc hf hd
  go_enter Try.func25, Try.ntmps25
  go_wp2_with (go_at_call 36; refine (reach_any _ _ _ _ _ _ _ _ H.out s).mono ?_; rintro e w' ⟨rfl, rfl⟩; rw [He.out])
  go_ret2
  exact ⟨rfl, rfl⟩

set_option maxHeartbeats 400000 in
theorem read_any (w : World) (S : Nat → Prop) (b : Nat) (k : Dk α) (h : IsDisk f w S b k) (s : Nat) (c : α) (bs' : List Value) (t : Value) (hc : k.now[s]? = some c) (hf : f c = bs' ++ [t]) (hl : bs'.length = 64) (h1 : ∀ u ∈ bs', u.oneCell' = true) (hd : k.dead = false) :
    Calls Try.prog 26 #[.pointer (some ⟨b, 0, none⟩), .int .i64 (s : Int)] w fun e w' => e = .returned (.tuple #[.slice (some ⟨w.heap.size, 0, none⟩) 64 64, .int .i64 0]) ∧ Bk w' w.heap.size 77 bs' ∧ Below w.heap.size w w' := by
  obtain ⟨bn, bs, cn, cs, vu, rfl, hm⟩ := h
  have hs : s < k.now.length := (List.getElem?_eq_some_iff.1 hc).1
  have he : k.err s = 0 := by
    have := hm.len
    simp [Dk.err, Dk.has, hd]
    omega
  have h0 := hm.nowC
  have ht : w.rangeAt bn (s * 65) bs' := fun j v hj => by
    have := (hm.nowR.elem s (f c) (by rw [List.getElem?_map, hc]; rfl)).2.2 j v (by rw [hf, List.getElem?_append_left (List.getElem?_eq_some_iff.1 hj).1]; exact hj)
    exact this
  have hst : ∀ (c0 : Array Value), c0.size = 64 → (storeCells ⟨w.heap.size, 0, none⟩ bs' 0).run Try.prog (w.alloc (.cells c0 77)) = .ok () (w.alloc (.cells bs'.toArray 77)) := fun c0 h0 => by
    simpa using run_storeCells_new (P := Try.prog) w 77 c0 bs'.toArray (by rw [size61]; simp [hl]) (by simp [hl, h0]) (all_oneCell_toArray h1)
  have H := Lib.hid hm
  have He := Lib.hid he
  have hs' : (s : Int) < (k.now.length : Int) := by omega
  generalize k.now.length = n at *
  clear hm he hc hf hd
  go_enter Try.func26, Try.ntmps26
  go_wp2_with (first | (refine wpList_load_mid rfl 77 (.tmp 20) rfl bn (s * 65) rfl bs' _ ht Try.underlying77 rfl (by rw [size61, hl]) ?_) | (go_at_call 36; refine (reach_any _ _ _ _ _ _ _ _ H.out s).mono ?_; rintro e w' ⟨rfl, rfl⟩; rw [He.out]))
  go_ret2
  exact ⟨rfl, Bk.new w 77 bs', (Below.refl _ w).alloc (Nat.le_refl _) _⟩

/-- What can't be read. -/
theorem read_err (w : World) (S : Nat → Prop) (b : Nat) (k : Dk α) (h : IsDisk f w S b k) (s x : Int) (he : k.err s = x) (hx : x ≠ 0) :
    Calls Try.prog 26 #[.pointer (some ⟨b, 0, none⟩), .int .i64 s] w fun e w' => e = .returned (.tuple #[.slice none 0 0, .int .i64 x]) ∧ w = w' := by
  obtain ⟨bn, bs, cn, cs, vu, rfl, hm⟩ := h
  have H := Lib.hid hm
  have He := Lib.hid he
  clear hm he
  go_enter Try.func26, Try.ntmps26
  go_wp2_with (go_at_call 36; refine (reach_any _ _ _ _ _ _ _ _ H.out s).mono ?_; rintro e w' ⟨rfl, rfl⟩; rw [He.out])
  go_ret2
  exact ⟨rfl, rfl⟩

theorem read_nil (w : World) (s : Int) :
    Calls Try.prog 26 #[.pointer none, .int .i64 s] w fun e w' => e = .returned (.tuple #[.slice none 0 0, .int .i64 2]) ∧ w = w' := by
  go_enter Try.func26, Try.ntmps26
  go_wp2_with (go_at_call 36; refine (reach_nil _ s).mono ?_; rintro e w' ⟨rfl, rfl⟩)
  go_ret2
  exact ⟨rfl, rfl⟩

theorem tag_nil (w : World) (s : Int) :
    Calls Try.prog 25 #[.pointer none, .int .i64 s] w fun e w' => e = .returned (.tuple #[.int .u16 0, .int .i64 2]) ∧ w = w' := by
  go_enter Try.func25, Try.ntmps25
  go_wp2_with (go_at_call 36; refine (reach_nil _ s).mono ?_; rintro e w' ⟨rfl, rfl⟩)
  go_ret2
  exact ⟨rfl, rfl⟩

/-- A sector of 0. -/
def z65 : List Value := List.replicate 64 (.int .u8 0) ++ [.int .u16 0]
theorem zero63 : Try.t79.zero = some (.agg z65.toArray) := by kernel_rfl

/-- A row of sectors of 0. -/
theorem row_zero (z : α) (hz : f z = z65) (n : Nat) (hn : n ≤ 4096) (w : World) (g : Nat) (Z : Array Value) (hZ : Z = madeCells z65.toArray (n * 65)) (hg : w.heap[g]? = some (.cells Z 79 (0, 0))) : Row w g 79 65 n ((List.replicate n z).map f) := by
  have hl : (f z).length = 65 := by rw [hz]; rfl
  refine ⟨⟨Z, hg, by rw [hZ]; simp [madeCells]⟩, by simp, by simp [maxLen]; omega, fun i c hc => ?_⟩
  rw [List.map_replicate, List.getElem?_replicate] at hc
  split at hc
  · cases hc
    refine ⟨hl, fun u hu => ?_, fun j v hj => ?_⟩
    · rw [hz] at hu
      simp only [z65, List.mem_append, List.mem_replicate, List.mem_singleton] at hu
      rcases hu with ⟨_, rfl⟩ | rfl <;> rfl
    · have hj' : j < 65 := by have := (List.getElem?_eq_some_iff.1 hj).1; omega
      rw [cell_of_row w g _ Z 79 (0, 0) hg, hZ]
      have hlt : i * 65 + j < n * 65 := by omega
      have hm : (i * 65 + j) % 65 = j := by omega
      rw [hz] at hj
      have e1 : (madeCells z65.toArray (n * 65))[i * 65 + j]? = some (z65.toArray[j]!) := by
        unfold madeCells
        rw [Array.getElem?_map, Array.getElem?_range, if_pos hlt]
        simp only [Option.map_some]
        rw [show z65.toArray.size = 65 from rfl, hm]
      rw [e1, ← hj]
      simp [hj]
  · cases hc

theorem fresh_disk (z : α) (hz : f z = z65) (n : Nat) (hn : n ≤ 4096) (w : World) (b g1 g2 : Nat) (Z : Array Value) (hZ : Z = madeCells z65.toArray (n * 65)) (h1 : w.heap[g1]? = some (.cells Z 79 (0, 0))) (h2 : w.heap[g2]? = some (.cells Z 79 (0, 0))) (hne : g1 ≠ g2)
    (hb : Bk w b 65 [.slice (some ⟨g1, 0, none⟩) n n, .slice (some ⟨g2, 0, none⟩) n n, .slice none 0 0, .bool false, .bool false, .int .i64 0, .int .i64 0]) : IsDisk f w (foot b g1 g2 (.slice none 0 0)) b (Dk.fresh n z) :=
  ⟨g1, g2, n, n, _, rfl, ⟨by simpa [Dk.fresh, Dk.now, puts] using hb, row_zero z hz n hn w g1 Z hZ h1, row_zero z hz n hn w g2 Z hZ h2, .inl ⟨rfl, rfl⟩, hne, rfl, fun p hp => by cases hp⟩⟩

theorem three_blocks (w : World) (A B C : Obj) : (((w.alloc A).alloc B).alloc C).drew.heap[w.heap.size]? = some A ∧ (((w.alloc A).alloc B).alloc C).drew.heap[w.heap.size + 1]? = some B ∧ (((w.alloc A).alloc B).alloc C).drew.heap[w.heap.size + 1 + 1]? = some C := by
  have e1 : (w.alloc A).heap.size = w.heap.size + 1 := by simp
  have e2 : ((w.alloc A).alloc B).heap.size = w.heap.size + 1 + 1 := by simp
  have n1 := heap_alloc_new (w.alloc A) B
  have n2 := heap_alloc_new ((w.alloc A).alloc B) C
  rw [e1] at n1
  rw [e2] at n2
  have o1 := Below.heap_alloc ((w.alloc A).alloc B) C w.heap.size (by omega)
  have o2 := Below.heap_alloc (w.alloc A) B w.heap.size (by omega)
  have o3 := Below.heap_alloc ((w.alloc A).alloc B) C (w.heap.size + 1) (by omega)
  exact ⟨o1.trans (o2.trans (heap_alloc_new w A)), o3.trans n1, n2⟩

set_option maxHeartbeats 400000 in
theorem new_any (w : World) (n : Nat) (hn : n ≤ 4096) (z : α) (hz : f z = z65) :
    Calls Try.prog 12 #[.int .i64 (n : Int)] w fun e w' => ∃ b S, e = .returned (.tuple #[.pointer (some ⟨b, 0, none⟩), .int .i64 0]) ∧ Below w.heap.size w w' ∧ IsDisk f w' S b (Dk.fresh n z) ∧ ∀ i, S i → w.heap.size ≤ i := by
  obtain ⟨Z, hZ⟩ : ∃ Z, Z = madeCells z65.toArray (n * 65) := ⟨_, rfl⟩
  have hmk : ∀ W : World, (Instr.makeSlice 62 (.int .i64 (n : Int)) (.int .i64 (n : Int))).run Try.prog W = .ok (.slice (some ⟨W.heap.size, 0, none⟩) n n) (W.alloc (.cells Z 79)) := fun W => by
    rw [hZ]
    exact run_makeSlice W 62 79 Try.t79 _ Try.underlying62 (by kernel_rfl) zero63 .i64 .i64 (n : Int) (n : Int) (by omega) (by omega) (by show (n : Int).toNat * 65 ≤ _; omega) (by show ((66 : Nat) : Int) * _ ≤ _; omega) (by omega)
  have HZ := Lib.hid hZ
  clear hZ
  have hn1 : ¬ ((n : Int) < 0) := by omega
  have hn2 : ¬ ((4096 : Int) < n) := by omega
  go_enter Try.func12, Try.ntmps12
  go_wp2
  go_region
  all_goals (go_wp2; go_ret2)
  · obtain ⟨t1, t2, t3⟩ := three_blocks w (.cells Z 79) (.cells Z 79) (.cells #[.slice (some ⟨w.heap.size, 0, none⟩) n n, .slice (some ⟨w.heap.size + 1, 0, none⟩) n n, .slice none 0 0, .bool false, .bool false, .int .i64 0, .int .i64 0] 65)
    exact ⟨w.heap.size + 1 + 1, _, rfl, ((((Below.refl _ w).alloc (Nat.le_refl _) _).alloc (by simp) _).alloc (by simp; omega) _).drew, fresh_disk z hz n hn _ _ w.heap.size (w.heap.size + 1) Z HZ.out t1 t2 (by omega) t3, by
      rintro i (rfl | rfl | rfl | h)
      · omega
      · omega
      · omega
      · cases h⟩
  · obtain ⟨t1, t2, t3⟩ := three_blocks w (.cells Z 79) (.cells Z 79) (.cells #[.slice (some ⟨w.heap.size + 1, 0, none⟩) n n, .slice (some ⟨w.heap.size, 0, none⟩) n n, .slice none 0 0, .bool false, .bool false, .int .i64 0, .int .i64 0] 65)
    exact ⟨w.heap.size + 1 + 1, _, rfl, ((((Below.refl _ w).alloc (Nat.le_refl _) _).alloc (by simp) _).alloc (by simp; omega) _).drew, fresh_disk z hz n hn _ _ (w.heap.size + 1) w.heap.size Z HZ.out t2 t1 (by omega) t3, by
      rintro i (rfl | rfl | rfl | h)
      · omega
      · omega
      · omega
      · cases h⟩

end

end Go.Proofs.Ytnkpmmijdkcdjaa
