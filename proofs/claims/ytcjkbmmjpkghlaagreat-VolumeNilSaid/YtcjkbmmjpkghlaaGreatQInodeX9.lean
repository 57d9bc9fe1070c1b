/-
  The inode that bytes stand for: package inode's Take.
-/
import Derived.Test.YtcjkbmmjpkghlaaGreatQInodeB
namespace Go.Proofs.YtcjkbmmjpkghlaaGreat.Inode
open Go.RowKit

set_option maxHeartbeats 800000 in
set_option maxRecDepth 100000 in
theorem take_len (A : Option Addr) (n c : Nat) (w : World) (h : n ≠ 32) : Calls Tryz.prog 181 #[.slice A n c] w fun e w' => HandsN w .z 110 e w' := by
  have h' : ¬ (n : Int) = 32 := by omega
  have h2 : ((n : Int) != 32) = true := by simpa using h'
  clear h h'
  go_enter Tryz.func181, Tryz.ntmps181
  go_wp2
  refine bodyPost_ret (v := .tuple #[.agg #[.int .u8 0, .int .u8 0, .int .i64 0, .int .i64 0, .int .i64 0, .int .i64 0, .int .i64 0, .int .i64 0, .int .i64 0, .int .i64 0, .int .i64 0, .int .i64 0, .int .i64 0, .int .i64 0], .int .i64 110]) (by simp [results, Tryz.results181, go_sem]) rfl ⟨rfl, ?_⟩
  repeat (first | with_reducible exact Below.refl _ _ | with_reducible refine below_drewN ?_ _ | with_reducible refine Below.setCell ?_ ?_ _ | with_reducible refine Below.alloc ?_ ?_ _)
  all_goals (simp <;> omega)

set_option maxHeartbeats 1600000 in
set_option maxRecDepth 100000 in
theorem take_in (b : List UInt8) (A : Option Addr) (c : Nat) (w : World) (hl : b.length = 32) (hr : Rd w w.heap.size A (bytesV b)) (hc : 32 ≤ c) :
    Calls Tryz.prog 181 #[.slice A 32 c] w fun e w' => HandsN w (takI b).1 (takI b).2 e w' := by
  obtain ⟨R, hR⟩ : ∃ R, R = takI b := ⟨_, rfl⟩
  have HT := Lib.hid (ptrs15 b hl)
  have HU : Hid (unI b = ⟨(b.getD 0 0).toNat, (b.getD 1 0).toNat, ((numL b 2 : Nat) : Int), ((numL b 4 : Nat) : Int), [((numL b 6 : Nat) : Int), ((numL b 8 : Nat) : Int), ((numL b 10 : Nat) : Int), ((numL b 12 : Nat) : Int), ((numL b 14 : Nat) : Int), ((numL b 16 : Nat) : Int), ((numL b 18 : Nat) : Int), ((numL b 20 : Nat) : Int), ((numL b 22 : Nat) : Int), ((numL b 24 : Nat) : Int)]⟩) := rfl
  have HLd := Lib.hid (show (b.drop 2).length = 30 by rw [List.length_drop, hl])
  have hd := hr.drop (k := 2) (c := c) (by rw [length_bytesV]; omega) (by rw [length_bytesV]; omega)
  rw [if_neg (by omega), ← bytesV_drop] at hd
  obtain ⟨bb, o, rfl, hbb, hcc⟩ : ∃ bb o, A = some ⟨bb, o, none⟩ ∧ bb < w.heap.size ∧ ∀ j u, (bytesV b)[j]? = some u → w.cell? ⟨bb, o + j, none⟩ = some u := by
    rcases hr with h | h
    · have := length_bytesV b; rw [h, hl] at this; simp at this
    · exact h
  have hb0 : w.cell? ⟨bb, o + 0, none⟩ = some (.int .u8 ((b.getD 0 0).toNat : Int)) := hcc 0 _ (byte_at b 0 (by omega))
  have hb1 : w.cell? ⟨bb, o + 1, none⟩ = some (.int .u8 ((b.getD 1 0).toNat : Int)) := hcc 1 _ (byte_at b 1 (by omega))
  have bk : (b.getD 0 0).toNat < 256 := UInt8.toNat_lt _
  have br : (b.getD 1 0).toNat < 256 := UInt8.toNat_lt _
  have HD := Lib.hid (show Rd w w.heap.size (some ⟨bb, o + 2, none⟩) (bytesV (b.drop 2)) by rw [Option.map_some, Addr.add_lit] at hd; exact hd)
  have HRb := Lib.hid hr
  have Hbb := Lib.hid hbb
  rw [← hR]
  generalize (b.getD 0 0).toNat = k at *
  generalize (b.getD 1 0).toNat = r at *
  have bn0 := numL_lt b 2
  generalize numL b 2 = n0 at *
  have bn1 := numL_lt b 4
  generalize numL b 4 = n1 at *
  have bn2 := numL_lt b 6
  generalize numL b 6 = n2 at *
  have bn3 := numL_lt b 8
  generalize numL b 8 = n3 at *
  have bn4 := numL_lt b 10
  generalize numL b 10 = n4 at *
  have bn5 := numL_lt b 12
  generalize numL b 12 = n5 at *
  have bn6 := numL_lt b 14
  generalize numL b 14 = n6 at *
  have bn7 := numL_lt b 16
  generalize numL b 16 = n7 at *
  have bn8 := numL_lt b 18
  generalize numL b 18 = n8 at *
  have bn9 := numL_lt b 20
  generalize numL b 20 = n9 at *
  have bn10 := numL_lt b 22
  generalize numL b 22 = n10 at *
  have bn11 := numL_lt b 24
  generalize numL b 24 = n11 at *
  have bn12 := numL_lt b 26
  generalize numL b 26 = n12 at *
  have bn13 := numL_lt b 28
  generalize numL b 28 = n13 at *
  have bn14 := numL_lt b 30
  generalize numL b 30 = n14 at *
  have H0 := Lib.hid hb0
  have H1 := Lib.hid hb1
  have HR := Lib.hid hR
  have HL := Lib.hid hl
  have HWP : Hid (∀ W : World, Calls Tryz.prog 212 #[.agg #[.int .u8 (k : Int), .int .u8 (r : Int), .int .i64 (n0 : Int), .int .i64 (n1 : Int), .int .i64 0, .int .i64 0, .int .i64 0, .int .i64 0, .int .i64 0, .int .i64 0, .int .i64 0, .int .i64 0, .int .i64 0, .int .i64 0], .agg #[.int .i64 (n2 : Int), .int .i64 (n3 : Int), .int .i64 (n4 : Int), .int .i64 (n5 : Int), .int .i64 (n6 : Int), .int .i64 (n7 : Int), .int .i64 (n8 : Int), .int .i64 (n9 : Int), .int .i64 (n10 : Int), .int .i64 (n11 : Int)]] W fun e w' => e = .returned (.agg #[.int .u8 (k : Int), .int .u8 (r : Int), .int .i64 (n0 : Int), .int .i64 (n1 : Int), .int .i64 (n2 : Int), .int .i64 (n3 : Int), .int .i64 (n4 : Int), .int .i64 (n5 : Int), .int .i64 (n6 : Int), .int .i64 (n7 : Int), .int .i64 (n8 : Int), .int .i64 (n9 : Int), .int .i64 (n10 : Int), .int .i64 (n11 : Int)]) ∧ Below W.heap.size W w') := fun W => wp_ten k r n0 n1 0 0 0 0 0 0 0 0 0 0 n2 n3 n4 n5 n6 n7 n8 n9 n10 n11 W
  have HLA : Hid (∀ W : World, Calls Tryz.prog 165 #[.agg #[.int .u8 (k : Int), .int .u8 (r : Int), .int .i64 (n0 : Int), .int .i64 (n1 : Int), .int .i64 (n2 : Int), .int .i64 (n3 : Int), .int .i64 (n4 : Int), .int .i64 (n5 : Int), .int .i64 (n6 : Int), .int .i64 (n7 : Int), .int .i64 (n8 : Int), .int .i64 (n9 : Int), .int .i64 (n10 : Int), .int .i64 (n11 : Int)]] W fun e w' => HandsB W (layI (⟨k, r, (n0 : Int), (n1 : Int), [(n2 : Int), (n3 : Int), (n4 : Int), (n5 : Int), (n6 : Int), (n7 : Int), (n8 : Int), (n9 : Int), (n10 : Int), (n11 : Int)]⟩ : Ino)).1 (layI (⟨k, r, (n0 : Int), (n1 : Int), [(n2 : Int), (n3 : Int), (n4 : Int), (n5 : Int), (n6 : Int), (n7 : Int), (n8 : Int), (n9 : Int), (n10 : Int), (n11 : Int)]⟩ : Ino)).2 e w') := fun W => lay_ino (⟨k, r, (n0 : Int), (n1 : Int), [(n2 : Int), (n3 : Int), (n4 : Int), (n5 : Int), (n6 : Int), (n7 : Int), (n8 : Int), (n9 : Int), (n10 : Int), (n11 : Int)]⟩ : Ino) ⟨rfl, bk, br⟩ W
  have HLn := Lib.hid (length_bytesI (n := (⟨k, r, (n0 : Int), (n1 : Int), [(n2 : Int), (n3 : Int), (n4 : Int), (n5 : Int), (n6 : Int), (n7 : Int), (n8 : Int), (n9 : Int), (n10 : Int), (n11 : Int)]⟩ : Ino)) ⟨rfl, bk, br⟩)
  clear hl hr hd hcc hb0 hb1 hR hbb
  go_enter Tryz.func181, Tryz.ntmps181
  go_wp2_with fail
  refine (unpack_any (b.drop 2) (some ⟨bb, o + 2, none⟩) 30 (c - 2) 15 _ HLd.out ((HD.out.below (alloc_below w _)).more (by simp)) (by omega) rfl (by omega)).mono ?_
  rintro e w1 ⟨v1, he, hown1, hb1⟩
  obtain rfl := he
  rw [HT.out] at hown1
  have hown1' : w1.ownsRow (w.alloc (.cells #[.int .u8 0, .int .u8 0, .int .i64 0, .int .i64 0, .int .i64 0, .int .i64 0, .int .i64 0, .int .i64 0, .int .i64 0, .int .i64 0, .int .i64 0, .int .i64 0, .int .i64 0, .int .i64 0] 40)).heap.size 3 1 v1 15 (intsV [(n0 : Int), (n1 : Int), (n2 : Int), (n3 : Int), (n4 : Int), (n5 : Int), (n6 : Int), (n7 : Int), (n8 : Int), (n9 : Int), (n10 : Int), (n11 : Int), (n12 : Int), (n13 : Int), (n14 : Int)]) := hown1
  obtain ⟨g1, c1, rfl, hc1⟩ := own_pos hown1' (by omega)
  have q0 : w1.cell? ⟨g1, 0, none⟩ = some (.int .i64 (n0 : Int)) := hown1'.cellAt 0 (by omega)
  have q1 : w1.cell? ⟨g1, 1, none⟩ = some (.int .i64 (n1 : Int)) := hown1'.cellAt 1 (by omega)
  have q2 : w1.cell? ⟨g1, 2, none⟩ = some (.int .i64 (n2 : Int)) := hown1'.cellAt 2 (by omega)
  have q3 : w1.cell? ⟨g1, 3, none⟩ = some (.int .i64 (n3 : Int)) := hown1'.cellAt 3 (by omega)
  have q4 : w1.cell? ⟨g1, 4, none⟩ = some (.int .i64 (n4 : Int)) := hown1'.cellAt 4 (by omega)
  have q5 : w1.cell? ⟨g1, 5, none⟩ = some (.int .i64 (n5 : Int)) := hown1'.cellAt 5 (by omega)
  have q6 : w1.cell? ⟨g1, 6, none⟩ = some (.int .i64 (n6 : Int)) := hown1'.cellAt 6 (by omega)
  have q7 : w1.cell? ⟨g1, 7, none⟩ = some (.int .i64 (n7 : Int)) := hown1'.cellAt 7 (by omega)
  have q8 : w1.cell? ⟨g1, 8, none⟩ = some (.int .i64 (n8 : Int)) := hown1'.cellAt 8 (by omega)
  have q9 : w1.cell? ⟨g1, 9, none⟩ = some (.int .i64 (n9 : Int)) := hown1'.cellAt 9 (by omega)
  have q10 : w1.cell? ⟨g1, 10, none⟩ = some (.int .i64 (n10 : Int)) := hown1'.cellAt 10 (by omega)
  have q11 : w1.cell? ⟨g1, 11, none⟩ = some (.int .i64 (n11 : Int)) := hown1'.cellAt 11 (by omega)
  have q12 : w1.cell? ⟨g1, 12, none⟩ = some (.int .i64 (n12 : Int)) := hown1'.cellAt 12 (by omega)
  have q13 : w1.cell? ⟨g1, 13, none⟩ = some (.int .i64 (n13 : Int)) := hown1'.cellAt 13 (by omega)
  have q14 : w1.cell? ⟨g1, 14, none⟩ = some (.int .i64 (n14 : Int)) := hown1'.cellAt 14 (by omega)
  have hk1 := (Bk.new w 40 [.int .u8 0, .int .u8 0, .int .i64 0, .int .i64 0, .int .i64 0, .int .i64 0, .int .i64 0, .int .i64 0, .int .i64 0, .int .i64 0, .int .i64 0, .int .i64 0, .int .i64 0, .int .i64 0]).below hb1 (by simp)
  have hB1 : Below w.heap.size w w1 := (alloc_below w _).trans (hb1.mono (by simp))
  have e0 : w1.cell? ⟨bb, o, none⟩ = some (.int .u8 (k : Int)) := (hB1.cell (p := ⟨bb, o, none⟩) Hbb.out).trans H0.out
  have e1 : w1.cell? ⟨bb, o + 1, none⟩ = some (.int .u8 (r : Int)) := (hB1.cell (p := ⟨bb, o + 1, none⟩) Hbb.out).trans H1.out
  have hg1 := lt_of q0
  have HK1 := Lib.hid hk1
  have HB1 := Lib.hid hB1
  have hw1 := hk1.lt
  have hbb1 := Nat.lt_of_lt_of_le Hbb.out hB1.size
  have hc2 : ¬ c1 = 2 := by omega
  have hgw : w.heap.size < g1 := by
    have := (hown1'.lt g1 rfl).1
    simp at this
    omega
  have HR1 : Hid (Rd w1 w1.heap.size (some ⟨g1, 0, none⟩) (intsV [(n0 : Int), (n1 : Int), (n2 : Int), (n3 : Int), (n4 : Int), (n5 : Int), (n6 : Int), (n7 : Int), (n8 : Int), (n9 : Int), (n10 : Int), (n11 : Int), (n12 : Int), (n13 : Int), (n14 : Int)])) := own_rdp hown1'
  clear hown1 hown1' hb1 hk1 hB1
  go_wp2_with fail
  go_region
  go_wp2
  obtain ⟨W, hW⟩ : ∃ W, W = ((w1.alloc (.cells #[.int .u8 (k : Int), .int .u8 (r : Int), .int .i64 (n0 : Int), .int .i64 (n1 : Int), .int .i64 0, .int .i64 0, .int .i64 0, .int .i64 0, .int .i64 0, .int .i64 0, .int .i64 0, .int .i64 0, .int .i64 0, .int .i64 0] 40)).alloc (.cells #[.int .i64 0, .int .i64 0, .int .i64 0, .int .i64 0, .int .i64 0, .int .i64 0, .int .i64 0, .int .i64 0, .int .i64 0, .int .i64 0] 198)).drew := ⟨_, rfl⟩
  rw [← hW]
  obtain ⟨hA, hP, hB, hS⟩ := two_new w1 [.int .u8 (k : Int), .int .u8 (r : Int), .int .i64 (n0 : Int), .int .i64 (n1 : Int), .int .i64 0, .int .i64 0, .int .i64 0, .int .i64 0, .int .i64 0, .int .i64 0, .int .i64 0, .int .i64 0, .int .i64 0, .int .i64 0] [.int .i64 0, .int .i64 0, .int .i64 0, .int .i64 0, .int .i64 0, .int .i64 0, .int .i64 0, .int .i64 0, .int .i64 0, .int .i64 0] 40 198 W hW
  clear hW q0 q1 q2 q3 q4 q5 q6 q7 q8 q9 q10 q11 q12 q13 q14 e0 e1
  have hsrc := Lib.hid (src10 (HR1.out.below (below_drew hB)))
  have hpp : Hid (W.drew.heap[w1.heap.size + 1]? = some (.cells [.int .i64 0, .int .i64 0, .int .i64 0, .int .i64 0, .int .i64 0, .int .i64 0, .int .i64 0, .int .i64 0, .int .i64 0, .int .i64 0].toArray 198 (0, 0))) := hP
  have HA := Lib.hid hA
  have HS := Lib.hid hS
  have HBW := Lib.hid hB
  have hK := HK1.out.below hB hw1
  have HKW := Lib.hid hK
  clear hA hP hB hS hK
  go_region_law (refine step_copy_row rfl (.tmp 29) (.tmp 31) 57 57 rfl 3 Tryz.underlying57 size3 (w1.heap.size + 1) 0 10 10 ⟨g1, 2, none⟩ 13 (c1 - 2) rfl rfl [.int .i64 0, .int .i64 0, .int .i64 0, .int .i64 0, .int .i64 0, .int .i64 0, .int .i64 0, .int .i64 0, .int .i64 0, .int .i64 0] 198 hpp.out (intsV [(n2 : Int), (n3 : Int), (n4 : Int), (n5 : Int), (n6 : Int), (n7 : Int), (n8 : Int), (n9 : Int), (n10 : Int), (n11 : Int)]) rfl hsrc.out (show 0 + 10 ≤ 10 by decide) (intsV_one _) ?_; intro w4 hg4 hb4)
  have hP4 : Bk w4 (w1.heap.size + 1) 198 [.int .i64 (n2 : Int), .int .i64 (n3 : Int), .int .i64 (n4 : Int), .int .i64 (n5 : Int), .int .i64 (n6 : Int), .int .i64 (n7 : Int), .int .i64 (n8 : Int), .int .i64 (n9 : Int), .int .i64 (n10 : Int), .int .i64 (n11 : Int)] := hg4.out
  have hA4 : Bk w4 w1.heap.size 40 [.int .u8 (k : Int), .int .u8 (r : Int), .int .i64 (n0 : Int), .int .i64 (n1 : Int), .int .i64 0, .int .i64 0, .int .i64 0, .int .i64 0, .int .i64 0, .int .i64 0, .int .i64 0, .int .i64 0, .int .i64 0, .int .i64 0] := (show Bk W.drew w1.heap.size 40 [.int .u8 (k : Int), .int .u8 (r : Int), .int .i64 (n0 : Int), .int .i64 (n1 : Int), .int .i64 0, .int .i64 0, .int .i64 0, .int .i64 0, .int .i64 0, .int .i64 0, .int .i64 0, .int .i64 0, .int .i64 0, .int .i64 0] from HA.out).grown hb4.out (by simp)
  have hK4 : Bk w4 w.heap.size 40 [.int .u8 0, .int .u8 0, .int .i64 0, .int .i64 0, .int .i64 0, .int .i64 0, .int .i64 0, .int .i64 0, .int .i64 0, .int .i64 0, .int .i64 0, .int .i64 0, .int .i64 0, .int .i64 0] := (show Bk W.drew w.heap.size 40 [.int .u8 0, .int .u8 0, .int .i64 0, .int .i64 0, .int .i64 0, .int .i64 0, .int .i64 0, .int .i64 0, .int .i64 0, .int .i64 0, .int .i64 0, .int .i64 0, .int .i64 0, .int .i64 0] from HKW.out).grown hb4.out (by simp; omega)
  have hB4 : Below w1.heap.size w1 w4 := (below_drew HBW.out).grown hb4.out (by have := HS.out; show w1.heap.size ≤ W.heap.size; omega) (by rintro q hq; injection hq with hq; omega)
  obtain ⟨a0, a1, a2, a3, a4, a5, a6, a7, a8, a9, a10, a11, a12, a13⟩ := ino_cells hA4
  obtain ⟨r0, r1, r2, r3, r4, r5, r6, r7, r8, r9⟩ := ten_cells hP4
  have HA4 := Lib.hid hA4
  have HK4 := Lib.hid hK4
  have HB4 := Lib.hid hB4
  clear hg4 hb4 hsrc hpp HA HS HBW HKW hP4 hA4 hK4 hB4 W
  go_wp2_with fail
  refine (HWP.out _).mono ?_
  rintro e w5 ⟨he, hb5⟩
  obtain rfl := he
  clear a0 a1 a2 a3 a4 a5 a6 a7 a8 a9 a10 a11 a12 a13 r0 r1 r2 r3 r4 r5 r6 r7 r8 r9
  have hA5 := HA4.out.below hb5 HA4.out.lt
  have hK5 := HK4.out.below hb5 HK4.out.lt
  have hB5 := HB4.out.trans (hb5.mono HB4.out.size)
  have hA6 := (((((((((((((hA5.set 0 (.int .u8 (k : Int))).set 1 (.int .u8 (r : Int))).set 2 (.int .i64 (n0 : Int))).set 3 (.int .i64 (n1 : Int))).set 4 (.int .i64 (n2 : Int))).set 5 (.int .i64 (n3 : Int))).set 6 (.int .i64 (n4 : Int))).set 7 (.int .i64 (n5 : Int))).set 8 (.int .i64 (n6 : Int))).set 9 (.int .i64 (n7 : Int))).set 10 (.int .i64 (n8 : Int))).set 11 (.int .i64 (n9 : Int))).set 12 (.int .i64 (n10 : Int))).set 13 (.int .i64 (n11 : Int))
  have hK6 : Bk ((((((((((((((w5.setCell ⟨w1.heap.size, 0, none⟩ (.int .u8 (k : Int))).setCell ⟨w1.heap.size, 1, none⟩ (.int .u8 (r : Int))).setCell ⟨w1.heap.size, 2, none⟩ (.int .i64 (n0 : Int))).setCell ⟨w1.heap.size, 3, none⟩ (.int .i64 (n1 : Int))).setCell ⟨w1.heap.size, 4, none⟩ (.int .i64 (n2 : Int))).setCell ⟨w1.heap.size, 5, none⟩ (.int .i64 (n3 : Int))).setCell ⟨w1.heap.size, 6, none⟩ (.int .i64 (n4 : Int))).setCell ⟨w1.heap.size, 7, none⟩ (.int .i64 (n5 : Int))).setCell ⟨w1.heap.size, 8, none⟩ (.int .i64 (n6 : Int))).setCell ⟨w1.heap.size, 9, none⟩ (.int .i64 (n7 : Int))).setCell ⟨w1.heap.size, 10, none⟩ (.int .i64 (n8 : Int))).setCell ⟨w1.heap.size, 11, none⟩ (.int .i64 (n9 : Int))).setCell ⟨w1.heap.size, 12, none⟩ (.int .i64 (n10 : Int))).setCell ⟨w1.heap.size, 13, none⟩ (.int .i64 (n11 : Int))) w.heap.size 40 [.int .u8 0, .int .u8 0, .int .i64 0, .int .i64 0, .int .i64 0, .int .i64 0, .int .i64 0, .int .i64 0, .int .i64 0, .int .i64 0, .int .i64 0, .int .i64 0, .int .i64 0, .int .i64 0] := hK5.grown (row := some w1.heap.size) (only_set (only_set (only_set (only_set (only_set (only_set (only_set (only_set (only_set (only_set (only_set (only_set (only_set (only_set (World.grownBy.refl w5 (some w1.heap.size)) 0 (.int .u8 (k : Int))) 1 (.int .u8 (r : Int))) 2 (.int .i64 (n0 : Int))) 3 (.int .i64 (n1 : Int))) 4 (.int .i64 (n2 : Int))) 5 (.int .i64 (n3 : Int))) 6 (.int .i64 (n4 : Int))) 7 (.int .i64 (n5 : Int))) 8 (.int .i64 (n6 : Int))) 9 (.int .i64 (n7 : Int))) 10 (.int .i64 (n8 : Int))) 11 (.int .i64 (n9 : Int))) 12 (.int .i64 (n10 : Int))) 13 (.int .i64 (n11 : Int))) (by simp; omega)
  have hB6 : Below w1.heap.size w1 ((((((((((((((w5.setCell ⟨w1.heap.size, 0, none⟩ (.int .u8 (k : Int))).setCell ⟨w1.heap.size, 1, none⟩ (.int .u8 (r : Int))).setCell ⟨w1.heap.size, 2, none⟩ (.int .i64 (n0 : Int))).setCell ⟨w1.heap.size, 3, none⟩ (.int .i64 (n1 : Int))).setCell ⟨w1.heap.size, 4, none⟩ (.int .i64 (n2 : Int))).setCell ⟨w1.heap.size, 5, none⟩ (.int .i64 (n3 : Int))).setCell ⟨w1.heap.size, 6, none⟩ (.int .i64 (n4 : Int))).setCell ⟨w1.heap.size, 7, none⟩ (.int .i64 (n5 : Int))).setCell ⟨w1.heap.size, 8, none⟩ (.int .i64 (n6 : Int))).setCell ⟨w1.heap.size, 9, none⟩ (.int .i64 (n7 : Int))).setCell ⟨w1.heap.size, 10, none⟩ (.int .i64 (n8 : Int))).setCell ⟨w1.heap.size, 11, none⟩ (.int .i64 (n9 : Int))).setCell ⟨w1.heap.size, 12, none⟩ (.int .i64 (n10 : Int))).setCell ⟨w1.heap.size, 13, none⟩ (.int .i64 (n11 : Int))) := hB5.grown (row := some w1.heap.size) (only_set (only_set (only_set (only_set (only_set (only_set (only_set (only_set (only_set (only_set (only_set (only_set (only_set (only_set (World.grownBy.refl w5 (some w1.heap.size)) 0 (.int .u8 (k : Int))) 1 (.int .u8 (r : Int))) 2 (.int .i64 (n0 : Int))) 3 (.int .i64 (n1 : Int))) 4 (.int .i64 (n2 : Int))) 5 (.int .i64 (n3 : Int))) 6 (.int .i64 (n4 : Int))) 7 (.int .i64 (n5 : Int))) 8 (.int .i64 (n6 : Int))) 9 (.int .i64 (n7 : Int))) 10 (.int .i64 (n8 : Int))) 11 (.int .i64 (n9 : Int))) 12 (.int .i64 (n10 : Int))) 13 (.int .i64 (n11 : Int))) hB5.size (by rintro q hq; injection hq with hq; omega)
  have hA6' : Bk ((((((((((((((w5.setCell ⟨w1.heap.size, 0, none⟩ (.int .u8 (k : Int))).setCell ⟨w1.heap.size, 1, none⟩ (.int .u8 (r : Int))).setCell ⟨w1.heap.size, 2, none⟩ (.int .i64 (n0 : Int))).setCell ⟨w1.heap.size, 3, none⟩ (.int .i64 (n1 : Int))).setCell ⟨w1.heap.size, 4, none⟩ (.int .i64 (n2 : Int))).setCell ⟨w1.heap.size, 5, none⟩ (.int .i64 (n3 : Int))).setCell ⟨w1.heap.size, 6, none⟩ (.int .i64 (n4 : Int))).setCell ⟨w1.heap.size, 7, none⟩ (.int .i64 (n5 : Int))).setCell ⟨w1.heap.size, 8, none⟩ (.int .i64 (n6 : Int))).setCell ⟨w1.heap.size, 9, none⟩ (.int .i64 (n7 : Int))).setCell ⟨w1.heap.size, 10, none⟩ (.int .i64 (n8 : Int))).setCell ⟨w1.heap.size, 11, none⟩ (.int .i64 (n9 : Int))).setCell ⟨w1.heap.size, 12, none⟩ (.int .i64 (n10 : Int))).setCell ⟨w1.heap.size, 13, none⟩ (.int .i64 (n11 : Int))) w1.heap.size 40 [.int .u8 (k : Int), .int .u8 (r : Int), .int .i64 (n0 : Int), .int .i64 (n1 : Int), .int .i64 (n2 : Int), .int .i64 (n3 : Int), .int .i64 (n4 : Int), .int .i64 (n5 : Int), .int .i64 (n6 : Int), .int .i64 (n7 : Int), .int .i64 (n8 : Int), .int .i64 (n9 : Int), .int .i64 (n10 : Int), .int .i64 (n11 : Int)] := hA6
  obtain ⟨a0, a1, a2, a3, a4, a5, a6, a7, a8, a9, a10, a11, a12, a13⟩ := ino_cells hA5
  obtain ⟨f0, f1, f2, f3, f4, f5, f6, f7, f8, f9, f10, f11, f12, f13⟩ := ino_frozen hA5
  have hlt5 := hA5.lt
  have HA6 := Lib.hid hA6'
  have HK6 := Lib.hid hK6
  have HB6 := Lib.hid hB6
  clear hA5 hK5 hB5 hA6 hA6' hK6 hB6 hb5
  go_wp2_with fail
  generalize (((((((((((((w5.setCell ⟨w1.heap.size, 0, none⟩ (.int .u8 (k : Int))).setCell ⟨w1.heap.size, 1, none⟩ (.int .u8 (r : Int))).setCell ⟨w1.heap.size, 2, none⟩ (.int .i64 (n0 : Int))).setCell ⟨w1.heap.size, 3, none⟩ (.int .i64 (n1 : Int))).setCell ⟨w1.heap.size, 4, none⟩ (.int .i64 (n2 : Int))).setCell ⟨w1.heap.size, 5, none⟩ (.int .i64 (n3 : Int))).setCell ⟨w1.heap.size, 6, none⟩ (.int .i64 (n4 : Int))).setCell ⟨w1.heap.size, 7, none⟩ (.int .i64 (n5 : Int))).setCell ⟨w1.heap.size, 8, none⟩ (.int .i64 (n6 : Int))).setCell ⟨w1.heap.size, 9, none⟩ (.int .i64 (n7 : Int))).setCell ⟨w1.heap.size, 10, none⟩ (.int .i64 (n8 : Int))).setCell ⟨w1.heap.size, 11, none⟩ (.int .i64 (n9 : Int))).setCell ⟨w1.heap.size, 12, none⟩ (.int .i64 (n10 : Int))).setCell ⟨w1.heap.size, 13, none⟩ (.int .i64 (n11 : Int)) = W6 at *
  clear a0 a1 a2 a3 a4 a5 a6 a7 a8 a9 a10 a11 a12 a13 f0 f1 f2 f3 f4 f5 f6 f7 f8 f9 f10 f11 f12 f13 hlt5 HA4 HK4 HB4 HWP w5 w4
  refine (HLA.out _).mono ?_
  clear HLA
  intro e w7 hh
  by_cases hRt : Right (⟨k, r, (n0 : Int), (n1 : Int), [(n2 : Int), (n3 : Int), (n4 : Int), (n5 : Int), (n6 : Int), (n7 : Int), (n8 : Int), (n9 : Int), (n10 : Int), (n11 : Int)]⟩ : Ino)
  rotate_left
  · rw [layI_no hRt] at hh
    obtain ⟨A7, c7, he, -, -, hb7⟩ := hh.got (n := 0) rfl
    obtain rfl := he
    have HV : Hid (R = (.z, 110)) := by
      show R = _
      rw [HR.out]
      exact takI_bad (by rw [HU.out]; exact hRt)
    have hK7 := HK6.out.below hb7 HK6.out.lt
    have hB7 := (HB1.out.trans (HB6.out.mono (Nat.le_of_lt (by have := HB1.out.size; omega)))).trans (hb7.mono (Nat.le_trans HB1.out.size HB6.out.size))
    have hw7 := hK7.lt
    obtain ⟨d0, d1, d2, d3, d4, d5, d6, d7, d8, d9, d10, d11, d12, d13⟩ := ino_cells hK7
    obtain ⟨x0, x1, x2, x3, x4, x5, x6, x7, x8, x9, x10, x11, x12, x13⟩ := ino_frozen hK7
    have HB7 := Lib.hid hB7
    clear hK7 hB7
    clear hRt hh hb7 HR HU HL HT HLn
    go_wp2
    refine bodyPost_ret (v := .tuple #[.agg #[.int .u8 0, .int .u8 0, .int .i64 0, .int .i64 0, .int .i64 0, .int .i64 0, .int .i64 0, .int .i64 0, .int .i64 0, .int .i64 0, .int .i64 0, .int .i64 0, .int .i64 0, .int .i64 0], .int .i64 110]) (by simp [results, Tryz.results181, go_sem, *]) rfl ⟨by rw [HV.out]; rfl, ?_⟩
    have hb := HB7.out
    repeat (first | with_reducible exact hb | with_reducible refine below_drewN ?_ _ | with_reducible refine Below.setCell ?_ ?_ _ | with_reducible refine Below.alloc ?_ ?_ _)
    all_goals (first | omega | (simp <;> omega))
  by_cases hbe : bytesI (⟨k, r, (n0 : Int), (n1 : Int), [(n2 : Int), (n3 : Int), (n4 : Int), (n5 : Int), (n6 : Int), (n7 : Int), (n8 : Int), (n9 : Int), (n10 : Int), (n11 : Int)]⟩ : Ino) = b
  rotate_left
  · rw [layI_yes hRt] at hh
    obtain ⟨A7, c7, he, -, hr7, hb7⟩ := hh.got (n := 32) HLn.out
    obtain rfl := he
    have HV : Hid (R = (.z, 110)) := by
      show R = _
      rw [HR.out]
      exact takI_not (by rw [HU.out]; exact hbe)
    have HE : Hid ((b == bytesI (⟨k, r, (n0 : Int), (n1 : Int), [(n2 : Int), (n3 : Int), (n4 : Int), (n5 : Int), (n6 : Int), (n7 : Int), (n8 : Int), (n9 : Int), (n10 : Int), (n11 : Int)]⟩ : Ino)) = false) := by
      show _ = _
      simp only [beq_eq_false_iff_ne, ne_eq]
      exact fun h => hbe h.symm
    have HR7 := Lib.hid hr7
    have hK7 := HK6.out.below hb7 HK6.out.lt
    have hB7 := (HB1.out.trans (HB6.out.mono (Nat.le_of_lt (by have := HB1.out.size; omega)))).trans (hb7.mono (Nat.le_trans HB1.out.size HB6.out.size))
    have hw7 := hK7.lt
    obtain ⟨d0, d1, d2, d3, d4, d5, d6, d7, d8, d9, d10, d11, d12, d13⟩ := ino_cells hK7
    obtain ⟨x0, x1, x2, x3, x4, x5, x6, x7, x8, x9, x10, x11, x12, x13⟩ := ino_frozen hK7
    have HB7 := Lib.hid hB7
    clear hK7 hB7
    have HRb7 := Lib.hid (HRb.out.below HB7.out)
    clear hRt hh hb7 hbe HR HU HT hr7
    go_wp2_with (go_at_call 114; (with_reducible refine (equal_any b (bytesI (⟨k, r, (n0 : Int), (n1 : Int), [(n2 : Int), (n3 : Int), (n4 : Int), (n5 : Int), (n6 : Int), (n7 : Int), (n8 : Int), (n9 : Int), (n10 : Int), (n11 : Int)]⟩ : Ino)) _ 32 c _ 32 c7 _ _ _ HL.out HRb7.out HLn.out HR7.out).mono ?_); rintro e w8 ⟨he, hw8⟩; obtain rfl := he; obtain rfl := hw8; rw [HE.out])
    refine bodyPost_ret (v := .tuple #[.agg #[.int .u8 0, .int .u8 0, .int .i64 0, .int .i64 0, .int .i64 0, .int .i64 0, .int .i64 0, .int .i64 0, .int .i64 0, .int .i64 0, .int .i64 0, .int .i64 0, .int .i64 0, .int .i64 0], .int .i64 110]) (by simp [results, Tryz.results181, go_sem, *]) rfl ⟨by rw [HV.out]; rfl, ?_⟩
    have hb := HB7.out
    repeat (first | with_reducible exact hb | with_reducible refine below_drewN ?_ _ | with_reducible refine Below.setCell ?_ ?_ _ | with_reducible refine Below.alloc ?_ ?_ _)
    all_goals (first | omega | (simp <;> omega))
  · rw [layI_yes hRt] at hh
    obtain ⟨A7, c7, he, -, hr7, hb7⟩ := hh.got (n := 32) HLn.out
    obtain rfl := he
    have HV : Hid (R = ((⟨k, r, (n0 : Int), (n1 : Int), [(n2 : Int), (n3 : Int), (n4 : Int), (n5 : Int), (n6 : Int), (n7 : Int), (n8 : Int), (n9 : Int), (n10 : Int), (n11 : Int)]⟩ : Ino), 0)) := by
      show R = _
      rw [HR.out, takI_yes HL.out (by rw [HU.out]; exact hRt) (by rw [HU.out]; exact hbe), HU.out]
    have HE : Hid ((b == bytesI (⟨k, r, (n0 : Int), (n1 : Int), [(n2 : Int), (n3 : Int), (n4 : Int), (n5 : Int), (n6 : Int), (n7 : Int), (n8 : Int), (n9 : Int), (n10 : Int), (n11 : Int)]⟩ : Ino)) = true) := by
      show _ = _
      rw [hbe]
      exact beq_self_eq_true b
    have HR7 := Lib.hid hr7
    have hA7 := HA6.out.below hb7 HA6.out.lt
    have hlt7 := hA7.lt
    obtain ⟨a0, a1, a2, a3, a4, a5, a6, a7, a8, a9, a10, a11, a12, a13⟩ := ino_cells hA7
    have hK7 := HK6.out.below hb7 HK6.out.lt
    have hB7 := (HB1.out.trans (HB6.out.mono (Nat.le_of_lt (by have := HB1.out.size; omega)))).trans (hb7.mono (Nat.le_trans HB1.out.size HB6.out.size))
    have hw7 := hK7.lt
    obtain ⟨d0, d1, d2, d3, d4, d5, d6, d7, d8, d9, d10, d11, d12, d13⟩ := ino_cells hK7
    obtain ⟨x0, x1, x2, x3, x4, x5, x6, x7, x8, x9, x10, x11, x12, x13⟩ := ino_frozen hK7
    have HB7 := Lib.hid hB7
    clear hK7 hB7
    have HRb7 := Lib.hid (HRb.out.below HB7.out)
    clear hRt hh hb7 hbe HR HU HT hr7 hA7
    go_wp2_with (go_at_call 114; (with_reducible refine (equal_any b (bytesI (⟨k, r, (n0 : Int), (n1 : Int), [(n2 : Int), (n3 : Int), (n4 : Int), (n5 : Int), (n6 : Int), (n7 : Int), (n8 : Int), (n9 : Int), (n10 : Int), (n11 : Int)]⟩ : Ino)) _ 32 c _ 32 c7 _ _ _ HL.out HRb7.out HLn.out HR7.out).mono ?_); rintro e w8 ⟨he, hw8⟩; obtain rfl := he; obtain rfl := hw8; rw [HE.out])
    refine bodyPost_ret (v := .tuple #[.agg #[.int .u8 (k : Int), .int .u8 (r : Int), .int .i64 (n0 : Int), .int .i64 (n1 : Int), .int .i64 (n2 : Int), .int .i64 (n3 : Int), .int .i64 (n4 : Int), .int .i64 (n5 : Int), .int .i64 (n6 : Int), .int .i64 (n7 : Int), .int .i64 (n8 : Int), .int .i64 (n9 : Int), .int .i64 (n10 : Int), .int .i64 (n11 : Int)], .int .i64 0]) (by simp [results, Tryz.results181, go_sem, *]) rfl ⟨by rw [HV.out]; rfl, ?_⟩
    have hb := HB7.out
    repeat (first | with_reducible exact hb | with_reducible refine below_drewN ?_ _ | with_reducible refine Below.setCell ?_ ?_ _ | with_reducible refine Below.alloc ?_ ?_ _)
    all_goals (first | omega | (simp <;> omega))
/-- Take. -/
theorem take_any (b : List UInt8) (A : Option Addr) (n c : Nat) (w : World) (hl : b.length = n) (hr : Rd w w.heap.size A (bytesV b)) (hc : n ≤ c) :
    Calls Tryz.prog 181 #[.slice A n c] w fun e w' => HandsN w (takI b).1 (takI b).2 e w' := by
  by_cases h : n = 32
  · subst h
    exact take_in b A c w hl hr hc
  · rw [takI_len (b := b) (by omega)]
    exact take_len A n c w h
end Go.Proofs.YtcjkbmmjpkghlaaGreat.Inode
