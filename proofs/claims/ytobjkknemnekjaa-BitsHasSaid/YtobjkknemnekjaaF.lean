/-
  The document's examples, as the statements show them at their head: true at every world. And what every statement's proof wants of this program.
-/
import Derived.Test.YtobjkknemnekjaaW3
import Derived.Test.YtobjkknemnekjaaC
namespace Go.Proofs.Ytobjkknemnekjaa
open Go.ChangeShapes Go.WideShapes Go.ChangeAt Go.RowKit

theorem own : ownKnob Try.prog.godebug = none := by kernel_rfl
theorem laid : laidOutB Try.prog = true := by kernel_rfl
theorem cells5 : Try.prog.cellsOf 5 = 1 := by kernel_rfl
theorem str_fact {w w' : World} {A : Option Addr} {n c B : Nat} {l : List UInt8} (hr : Rd w B A (bytesV l)) (hb : Below B w w') (hn : l.length = n) :
    (convert 22 9 (.slice A n c)).run Try.prog w' = .ok (.string ⟨l.toArray⟩) w' :=
  run_str w' 22 9 5 Try.underlying22 Try.underlying5 Try.underlying9 B A n c l hn (hr.below hb)

theorem few_any (A : Option Addr) (n c : Nat) (w : World) (hc : n ≤ c) (hm : n ≤ 9223372036854775807) :
    Calls Try.prog 10 #[.slice A n c] w fun e w' => e = .returned (.slice A (min n 600) c) ∧ w = w' := by
  have hq : min (n : Int) 600 = ((min n 600 : Nat) : Int) := by omega
  obtain ⟨q, hqe⟩ : ∃ q, q = min n 600 := ⟨_, rfl⟩
  have hqn : q ≤ n := by omega
  have hqi : min (n : Int) 600 = (q : Int) := by omega
  rw [← hqe]
  clear hq hqe
  go_enter Try.func10, Try.ntmps10
  go_wp2
  all_goals
    go_ret
    refine ⟨?_, rfl⟩
    first
      | (obtain rfl : q = 600 := by omega
         rfl)
      | (obtain rfl : q = n := by omega
         rfl)

theorem make_bytes (n : Nat) (h : n ≤ 65536) (u : World) : (Instr.makeSlice 22 (.int .i64 (n : Int)) (.int .i64 (n : Int))).run Try.prog u =
    .ok (.slice (some ⟨u.heap.size, 0, none⟩) n n) (u.alloc (.cells (bytesV (List.replicate n 0)).toArray 5)) := by
  obtain ⟨i0, hi, hz0, hz1, hz2⟩ := info_parts info5
  have hr := run_make (P := Try.prog) u 22 5 i0 (.int .u8 0) Try.underlying22 hi hz0 .i64 .i64 (n : Int) (n : Int) (by omega) (Int.le_refl _) (by rw [hz2]; omega) (by omega)
  have e : (madeCells (Value.int .u8 0).cells (n * i0.size)) = (bytesV (List.replicate n 0)).toArray := by
    apply Array.ext'
    rw [hz1, Nat.mul_one]
    have := toList_madeCells_one (.int .u8 0) n
    simp [bytesV, byteV] at this ⊢
    exact this
  simp only [Int.toNat_natCast, e] at hr
  exact hr

theorem rd_two (w : World) (a b : UInt8) (t : TypeId) : Rd (w.alloc (.cells #[.int .u8 (a.toNat : Int), .int .u8 (b.toNat : Int)] t)) (w.heap.size + 1) (some ⟨w.heap.size, 0, none⟩) (bytesV [a, b]) := by
  refine .inr ⟨w.heap.size, 0, rfl, by omega, fun i u hu => ?_⟩
  rw [World.cell?_alloc_at _ _ _ _ rfl]
  match i with
  | 0 => simpa [bytesV, byteV] using hu
  | 1 => simpa [bytesV, byteV] using hu
  | i + 2 => simp [bytesV] at hu

theorem rd_three (w : World) : Rd (w.alloc (.cells #[.int .i64 0, .int .i64 2, .int .i64 15] 3)) (w.heap.size + 1) (some ⟨w.heap.size, 0, none⟩) (natsV [0, 2, 15]) := by
  refine .inr ⟨w.heap.size, 0, rfl, by omega, fun i u hu => ?_⟩
  rw [World.cell?_alloc_at _ _ _ _ rfl]
  match i with
  | 0 => simpa [natsV] using hu
  | 1 => simpa [natsV] using hu
  | 2 => simpa [natsV] using hu
  | i + 3 => simp [natsV] at hu

theorem shown_any (w : World) : Calls Try.prog 9 #[] w fun e w' => e = .returned (.bool true) ∧ Below w.heap.size w w' := by
  have hmk : ∀ u : World, (Instr.makeSlice 22 (.int .i64 2) (.int .i64 2)).run Try.prog u = .ok (.slice (some ⟨u.heap.size, 0, none⟩) 2 2) (u.alloc (.cells (bytesV [0, 0]).toArray 5)) := fun u => make_bytes 2 (by omega) u
  have hb0 : Below w.heap.size w (w.alloc (.cells (bytesV [0, 0]).toArray 5)) := (Below.refl _ _).alloc (Nat.le_refl _) _
  have hr0 : Rd (w.alloc (.cells (bytesV [0, 0]).toArray 5)) (w.alloc (.cells (bytesV [0, 0]).toArray 5)).heap.size (some ⟨w.heap.size, 0, none⟩) (bytesV [0, 0]) := by
    have := (Bk.new w 5 (bytesV [0, 0])).rd 2 0
    simpa [bytesV] using this
  go_enter Try.func9, Try.ntmps9
  go_wp2_with fail
  generalize w.alloc (.cells (bytesV [0, 0]).toArray 5) = w0 at *
  refine (with_ok [0, 0] _ 2 2 9 true w0 rfl hr0 (by omega) (by omega)).mono ?_
  rintro e w1 ⟨v, rfl, hown, hb1⟩
  rw [show wb [0, 0] 9 true = [0, 2] by decide +kernel] at hown
  obtain ⟨g, c1, rfl, _⟩ := own_pos hown (by decide)
  have hrd := own_rdp hown
  have hb01 : Below w.heap.size w w1 := hb0.trans (hb1.mono hb0.size)
  have Hrd := Lib.hid hrd
  have HB := Lib.hid hb01
  clear hown hrd hb0 hb1 hr0 hb01
  go_wp2_with fail
  refine (first_any [255, 1] _ 2 2 _ 0 16 false _ rfl (rd_two w1 255 1 5) (by omega) (by omega)).mono ?_
  rintro e w2 ⟨rfl, m, hw2⟩
  rw [show fstV (fst [255, 1] 0 16 false (8 * ([255, 1] : List UInt8).length)) = .tuple #[.int .i64 9, .bool true] by kernel_rfl]
  have hb2 : Below w1.heap.size w1 w2 := by rw [hw2]; exact below_drewN ((Below.refl _ _).alloc (Nat.le_refl _) _) m
  have HB2 := Lib.hid (HB.out.trans (hb2.mono HB.out.size))
  have Hrd2 := Lib.hid ((Hrd.out.below hb2).more hb2.size)
  clear hb2 hw2 HB Hrd
  go_wp2_with fail
  have hb3 : Below w2.heap.size w2 (w2.alloc (.cells #[.int .u8 ((5 : UInt8).toNat : Int), .int .u8 ((128 : UInt8).toNat : Int)] 5)) := (Below.refl _ _).alloc (Nat.le_refl _) _
  refine (list_any [5, 128] _ 2 2 _ rfl ((rd_two w2 5 128 5).more (by simp)) (by omega)).mono ?_
  rintro e w3 ⟨v3, rfl, hown3, hb3'⟩
  rw [show ones [5, 128] = [0, 2, 15] by decide +kernel] at hown3
  obtain ⟨g3, c3, rfl, _⟩ := own_pos hown3 (by decide)
  have hrd3 := own_rdp hown3
  have hb4 : Below w2.heap.size w2 w3 := hb3.trans (hb3'.mono hb3.size)
  have HB3 := Lib.hid (HB2.out.trans (hb4.mono HB2.out.size))
  have Hrd4 := Lib.hid ((Hrd2.out.below hb4).more hb4.size)
  have Hrd3 := Lib.hid hrd3
  clear hb3 hb3' hb4 hown3 hrd3 HB2 Hrd2
  go_wp2_with fail
  have hb5 : Below w3.heap.size w3 (w3.alloc (.cells #[.int .i64 0, .int .i64 2, .int .i64 15] 3)) := (Below.refl _ _).alloc (Nat.le_refl _) _
  refine (same_true [0, 2, 15] _ _ 3 _ 3 _ (w3.heap.size + 1) _ rfl (Hrd3.out.below hb5) (rd_three w3) (by omega)).mono ?_
  rintro e w4 ⟨rfl, m4, hw4⟩
  have hb6 : Below w3.heap.size w3 w4 := by rw [hw4]; exact below_drewN hb5 m4
  have HB4 := Lib.hid (HB3.out.trans (hb6.mono HB3.out.size))
  have hcv := str_fact (n := 2) (c := c1) Hrd4.out hb6 rfl
  clear hb5 hb6 hw4
  go_wp2_with fail
  go_ret
  exact ⟨rfl, HB4.out⟩
end Go.Proofs.Ytobjkknemnekjaa
