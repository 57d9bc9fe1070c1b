/-
  A sector that is all one byte, and its patch; a write of one, whatever comes of it.
-/
import Derived.Test.YtnkpmmijdkcdjaaU3
namespace Go.Proofs.Ytnkpmmijdkcdjaa
open Go.RowKit
attribute [local go_sem ↓] Go.wp_at_zero Go.wp_at_succ

/-- 64 bytes, all the same. -/
def same (c : Nat) : List Value := List.replicate 64 (.int .u8 (c : Int))
theorem same_length (c : Nat) : (same c).length = 64 := by simp [same]
theorem same_one (c : Nat) : ∀ u ∈ same c, u.oneCell' = true := by
  intro u hu
  simp only [same, List.mem_replicate] at hu
  rw [hu.2]
  rfl
/-- A sector of them, whose tag is that, too. -/
def sec (c : Nat) : List Value := same c ++ [.int .u16 (c : Int)]
theorem sec_enc : Enc sec := ⟨fun c => by simp [sec, same_length], fun c u hu => by
  simp only [sec, List.mem_append, List.mem_singleton] at hu
  rcases hu with hu | rfl
  · exact same_one c u hu
  · rfl⟩
theorem sec_zero : sec 0 = z65 := rfl

theorem run_make64 (W : World) : (Instr.makeSlice 39 (.int .i64 64) (.int .i64 64)).run Try.prog W = .ok (.slice (some ⟨W.heap.size, 0, none⟩) 64 64) (W.alloc (.cells (same 0).toArray 5)) := by
  have h := run_makeSlice (P := Try.prog) W 39 5 Try.t5 (.int .u8 0) Try.underlying39 (by kernel_rfl) (by kernel_rfl) .i64 .i64 64 64 (by decide) (by decide) (by decide) (by decide) (by decide)
  have e : madeCells (Value.int .u8 0).cells (Int.toNat 64 * Try.t5.size) = (same 0).toArray := by kernel_rfl
  rw [h, e]
  rfl

/-- So many bytes of one kind, and then bytes 0. -/
def part (c j : Nat) : List Value := List.replicate j (.int .u8 (c : Int)) ++ List.replicate (64 - j) (.int .u8 0)
theorem part_set (c j : Nat) (h : j < 64) : (part c j).set j (.int .u8 (c : Int)) = part c (j + 1) := by
  unfold part
  rw [List.set_append_right _ _ (by simp), List.length_replicate, Nat.sub_self, show 64 - j = (64 - (j + 1)) + 1 by omega, List.replicate_succ, List.set_cons_zero, List.replicate_succ' , List.append_assoc]
  rfl

/-- A write, whatever comes of it. -/
def Dk.write {α : Type} (k : Dk α) (s : Int) (c : α) : Int × Dk α :=
  if k.has s then (if k.off then (6, k.op) else (0, k.wrote s.toNat c)) else (1, k)

theorem write_same (w : World) (S : Nat → Prop) (b : Nat) (k : Dk Nat) (h : IsDisk sec w S b k) (s : Int) (c g : Nat) (hB : Bk w g 5 (same c)) (hS : ¬ S g) (hun : k.un.length ≤ 1073741824) :
    Calls Try.prog 45 #[.pointer (some ⟨b, 0, none⟩), .agg #[.int .i64 s, .slice (some ⟨g, 0, none⟩) 64 64, .int .u16 (c : Int)]] w fun e w' => e = .returned (.int .i64 (k.write s c).1) ∧ Turned sec S w w' b (k.write s c).2 := by
  unfold Dk.write
  cases hh : k.has s
  · refine (write_bad w S b k h s hh _ _).mono ?_
    rintro e w' ⟨rfl, hb⟩
    exact ⟨rfl, Kept.of_below hb, S, h.below hb, fun i hi => .inl hi⟩
  · obtain ⟨n, rfl⟩ : ∃ n : Nat, s = (n : Int) := by
      simp [Dk.has] at hh
      exact ⟨s.toNat, by omega⟩
    have hn : n < k.safe.length := by
      simp [Dk.has] at hh
      omega
    cases ho : k.off
    · refine (write_any sec_enc w S b k h n hn g 0 64 (same c) (c : Int) c rfl (same_length c) (fun j v hj => by rw [hB.cell]; simpa using hj) hS hB.lt hun ho).mono ?_
      rintro e w' ⟨rfl, ht⟩
      exact ⟨rfl, ht⟩
    · refine (write_off w S b k h n hn _ 64 _ ho).mono ?_
      rintro e w' ⟨rfl, ht⟩
      exact ⟨rfl, ht⟩

end Go.Proofs.Ytnkpmmijdkcdjaa
