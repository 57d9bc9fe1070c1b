/-
  A sector that is all one byte, and its patch; a write of one, whatever comes of it.
-/
import Derived.Test.YtnebenkodpnofaaW3
namespace Go.Proofs.Ytnebenkodpnofaa
open Go.RowKit
attribute [local go_sem ↓] Go.wp_at_zero Go.wp_at_succ

/-- 64 bytes, all the same. -/
def same (c : Nat) : List Value := List.replicate 64 (.int .u8 (c : Int))
theorem same_length (c : Nat) : (same c).length = 64 := by simp [same]
theorem same_one (c : Nat) : ∀ u ∈ same c, u.oneCell' = true := by
  intro u hu
  simp only [same, List.mem_replicate] at hu
  rw [hu.2]
  rfl
/-- A sector of them, whose tag is that, too. -/
def sec (c : Nat) : List Value := same c ++ [.int .u16 (c : Int)]
theorem sec_enc : Enc sec := ⟨fun c => by simp [sec, same_length], fun c u hu => by
  simp only [sec, List.mem_append, List.mem_singleton] at hu
  rcases hu with hu | rfl
  · exact same_one c u hu
  · rfl⟩
theorem sec_zero : sec 0 = z65 := rfl

theorem run_make64 (W : World) : (Instr.makeSlice 29 (.int .i64 64) (.int .i64 64)).run Try.prog W = .ok (.slice (some ⟨W.heap.size, 0, none⟩) 64 64) (W.alloc (.cells (same 0).toArray 5)) := by
  have h := run_makeSlice (P := Try.prog) W 29 5 Try.t5 (.int .u8 0) Try.underlying29 (by kernel_rfl) (by kernel_rfl) .i64 .i64 64 64 (by decide) (by decide) (by decide) (by decide) (by decide)
  have e : madeCells (Value.int .u8 0).cells (Int.toNat 64 * Try.t5.size) = (same 0).toArray := by kernel_rfl
  rw [h, e]
  rfl

/-- So many bytes of one kind, and then bytes 0. -/
def part (c j : Nat) : List Value := List.replicate j (.int .u8 (c : Int)) ++ List.replicate (64 - j) (.int .u8 0)
theorem part_set (c j : Nat) (h : j < 64) : (part c j).set j (.int .u8 (c : Int)) = part c (j + 1) := by
  unfold part
  rw [List.set_append_right _ _ (by simp), List.length_replicate, Nat.sub_self, show 64 - j = (64 - (j + 1)) + 1 by omega, List.replicate_succ, List.set_cons_zero, List.replicate_succ' , List.append_assoc]
  rfl

set_option maxHeartbeats 400000 in
theorem sector_any (c : Nat) (w : World) :
    Calls Try.prog 18 #[.int .u8 (c : Int)] w fun e w' => e = .returned (.slice (some ⟨w.heap.size, 0, none⟩) 64 64) ∧ Bk w' w.heap.size 5 (same c) ∧ Below w.heap.size w w' ∧ w'.heap.size = w.heap.size + 1 := by
  have hmk := run_make64
  go_enter Try.func18, Try.ntmps18
  go_wp2
  go_loopw [8] (fun i wr => ∃ j : Nat, j ≤ 64 ∧ i = .int .i64 (j : Int) ∧ Bk wr w.heap.size 5 (part c j) ∧ Below w.heap.size w wr ∧ wr.heap.size = w.heap.size + 1) (fun i _ => 64 - (intOf i).toNat)
  case atStart => exact ⟨0, by omega, rfl, Bk.new w 5 (same 0), (Below.refl _ w).alloc (Nat.le_refl _) _, by simp⟩
  case round =>
    obtain ⟨j, hj, rfl, hB, hb, hs⟩ := hrel
    by_cases hlt : j < 64
    · have h0 : ∃ u, wr.cell? ⟨w.heap.size, j, none⟩ = some u := ⟨_, (hB.cell j).trans (List.getElem?_eq_getElem (by simp [part]; omega))⟩
      obtain ⟨u, hu⟩ := h0
      have hf := hB.frozen j
      have hB2 := hB.set j (.int .u8 (c : Int))
      rw [part_set c j hlt] at hB2
      have HB2 := Lib.hid hB2
      have Hb := Lib.hid (hb.setCell (p := ⟨w.heap.size, j, none⟩) (Nat.le_refl _) (.int .u8 (c : Int)))
      have Hs := Lib.hid hs
      clear hB hB2 hb hs
      go_wp2
      go_roundw
      case rel => exact ⟨j + 1, by omega, by go_num, HB2.out, Hb.out, by simpa [World.setCell] using Hs.out⟩
      case measure => simp [intOf]; omega
    · obtain rfl : j = 64 := by omega
      go_wp2
      go_ret
      exact ⟨rfl, by simpa [part, same] using hB, hb, hs⟩

/-- The patch. -/
theorem patch_any (at_ : Int) (c : Nat) (hc : c < 256) (w : World) :
    Calls Try.prog 12 #[.int .i64 at_, .int .u8 (c : Int)] w fun e w' => ∃ g, e = .returned (.agg #[.int .i64 at_, .slice (some ⟨g, 0, none⟩) 64 64, .int .u16 (c : Int)]) ∧ w.heap.size ≤ g ∧ Bk w' g 5 (same c) ∧ Below w.heap.size w w' := by
  have hcv : (c : Int) % 65536 = c := by omega
  go_enter Try.func12, Try.ntmps12
  go_wp2_with (go_at_call 18; refine (sector_any c _).mono ?_; rintro e w1 ⟨rfl, hB, hb, hs⟩; have hB0 := (Bk.new w 37 [.int .i64 0, .slice none 0 0, .int .u16 0]).below hb (by simp); have c0 := hB0.cell 0; have c1 := hB0.cell 1; have c2 := hB0.cell 2; have f0 := hB0.frozen 0; have f1 := hB0.frozen 1; have f2 := hB0.frozen 2; replace hB := Lib.hid hB; replace hb := Lib.hid hb; replace hs := Lib.hid hs; replace hB0 := Lib.hid hB0)
  have hg : w.heap.size ≠ w.heap.size + 1 := by omega
  have e1 : (w.alloc (.cells #[.int .i64 0, .slice none 0 0, .int .u16 0] 37)).heap.size = w.heap.size + 1 := by simp
  have hB1 := hB.out
  have hb1 := hb.out
  rw [e1] at hB1 hb1
  refine bodyPost_ret (v := .agg #[.int .i64 at_, .slice (some ⟨w.heap.size + 1, 0, none⟩) 64 64, .int .u16 (c : Int)]) (by simp [results, Try.results12, go_sem, c0, c1, c2]) rfl ⟨w.heap.size + 1, rfl, by omega, ?_, ?_⟩
  · exact (((Below.heap_setCell _ _ _ _ hg.symm).trans (Below.heap_setCell _ _ _ _ hg.symm)).trans (Below.heap_setCell _ _ _ _ hg.symm)).trans hB1
  · exact ((((((Below.refl _ w).alloc (Nat.le_refl _) _).trans (hb1.mono (by omega))).setCell (p := ⟨w.heap.size, 0, none⟩) (Nat.le_refl _) _).setCell (p := ⟨w.heap.size, 1, none⟩) (Nat.le_refl _) _).setCell (p := ⟨w.heap.size, 2, none⟩) (Nat.le_refl _) _)

/-- A write, whatever comes of it. -/
def Dk.write {α : Type} (k : Dk α) (s : Int) (c : α) : Int × Dk α :=
  if k.has s then (if k.off then (6, k.op) else (0, k.wrote s.toNat c)) else (1, k)

theorem write_same (w : World) (S : Nat → Prop) (b : Nat) (k : Dk Nat) (h : IsDisk sec w S b k) (s : Int) (c g : Nat) (hB : Bk w g 5 (same c)) (hS : ¬ S g) (hun : k.un.length ≤ 1073741824) :
    Calls Try.prog 11 #[.pointer (some ⟨b, 0, none⟩), .agg #[.int .i64 s, .slice (some ⟨g, 0, none⟩) 64 64, .int .u16 (c : Int)]] w fun e w' => e = .returned (.int .i64 (k.write s c).1) ∧ Turned sec S w w' b (k.write s c).2 := by
  unfold Dk.write
  cases hh : k.has s
  · refine (write_bad w S b k h s hh _ _).mono ?_
    rintro e w' ⟨rfl, hb⟩
    exact ⟨rfl, Kept.of_below hb, S, h.below hb, fun i hi => .inl hi⟩
  · obtain ⟨n, rfl⟩ : ∃ n : Nat, s = (n : Int) := by
      simp [Dk.has] at hh
      exact ⟨s.toNat, by omega⟩
    have hn : n < k.safe.length := by
      simp [Dk.has] at hh
      omega
    cases ho : k.off
    · refine (write_any sec_enc w S b k h n hn g 0 64 (same c) (c : Int) c rfl (same_length c) (fun j v hj => by rw [hB.cell]; simpa using hj) hS hB.lt hun ho).mono ?_
      rintro e w' ⟨rfl, ht⟩
      exact ⟨rfl, ht⟩
    · refine (write_off w S b k h n hn _ 64 _ ho).mono ?_
      rintro e w' ⟨rfl, ht⟩
      exact ⟨rfl, ht⟩

end Go.Proofs.Ytnebenkodpnofaa
