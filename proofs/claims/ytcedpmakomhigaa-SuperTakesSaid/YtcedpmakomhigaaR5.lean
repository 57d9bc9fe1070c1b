/-
  The geometry whose superblock given bytes are: what the program's own answer is.
-/
import Derived.Test.YtcedpmakomhigaaR4
import Derived.StillTailTactics
import Derived.Deep.RegionHeld3
namespace Go.Proofs.Ytcedpmakomhigaa
open Go.RowKit

/-- The number that stands in the two bytes from a place on. -/
def numL (l : List UInt8) (k : Nat) : Nat := le ((l.drop k).take 2)
theorem numL_lt (l : List UInt8) (k : Nat) : numL l k < 65536 := by
  have h := le_lt ((l.drop k).take 2)
  have h2 : ((l.drop k).take 2).length ≤ 2 := by simp; omega
  have h3 : 256 ^ ((l.drop k).take 2).length ≤ 256 ^ 2 := Nat.pow_le_pow_right (by omega) h2
  unfold numL
  omega
theorem takel4 (l : List UInt8) (hl : l.length = 64) : takel 2 ((l.drop 4).take 8) = [numL l 4, numL l 6, numL l 8, numL l 10] := by
  have h : ((l.drop 4).take 8).length = 8 := by simp [hl]
  unfold takel
  rw [h]
  simp [numL, List.drop_take, List.take_take, List.drop_drop, List.range_succ]

theorem str_eqv (l m : List UInt8) : ((ByteArray.mk l.toArray).toList == (ByteArray.mk m.toArray).toList) = decide (l = m) := by
  rw [Bool.eq_iff_iff, beq_iff_eq, decide_eq_true_eq, ByteArray.toList_eq, ByteArray.toList_eq]

theorem equal_any (l m : List UInt8) (A : Option Addr) (n c : Nat) (A2 : Option Addr) (n2 c2 B B2 : Nat) (w : World) (hn : l.length = n) (hr : Rd w B A (bytesV l)) (hn2 : m.length = n2) (hr2 : Rd w B2 A2 (bytesV m)) :
    Calls Try.prog 31 #[.slice A n c, .slice A2 n2 c2] w fun e w' => e = .returned (.bool (l == m)) ∧ w = w' := by
  have h1 := str_of (c := c) hn hr
  have h2 := str_of (c := c2) hn2 hr2
  clear hn hr hn2 hr2
  go_enter Try.func31, Try.ntmps31
  go_wp2
  go_ret
  exact ⟨rfl, rfl⟩

theorem keepA {w w1 : World} {g1 : Nat} {a b c d : Value} {t : TypeId} {xs : Array Value} (h0 : w1.cell? ⟨g1, 0, none⟩ = some a) (h1 : w1.cell? ⟨g1, 1, none⟩ = some b) (h2 : w1.cell? ⟨g1, 2, none⟩ = some c) (h3 : w1.cell? ⟨g1, 3, none⟩ = some d) (h : Below w.heap.size w w1) :
    (w1.alloc (.cells xs t)).drew.cell? ⟨g1, 0, none⟩ = some a ∧ (w1.alloc (.cells xs t)).drew.cell? ⟨g1, 1, none⟩ = some b ∧ (w1.alloc (.cells xs t)).drew.cell? ⟨g1, 2, none⟩ = some c ∧ (w1.alloc (.cells xs t)).drew.cell? ⟨g1, 3, none⟩ = some d ∧ Below w.heap.size w (w1.alloc (.cells xs t)).drew :=
  ⟨Lib.cell?_alloc_marked _ h0, Lib.cell?_alloc_marked _ h1, Lib.cell?_alloc_marked _ h2, Lib.cell?_alloc_marked _ h3, (h.alloc h.size _).drew⟩

def zeroG : Value := geoV 0 0 0 0

set_option maxRecDepth 100000 in
theorem stake_len (A : Option Addr) (n c : Nat) (w : World) (h : n ≠ 64) : Calls Try.prog 20 #[.slice A n c] w fun e w' => e = .returned (.tuple #[zeroG, .int .i64 90]) ∧ Below w.heap.size w w' := by
  have h' : ¬ (n : Int) = 64 := by omega
  have H := Lib.hid h'
  have h2 : ((n : Int) != 64) = true := by simpa using h'
  clear h h'
  go_enter Try.func20, Try.ntmps20
  go_wp2
  refine bodyPost_ret (v := .tuple #[zeroG, .int .i64 90]) (by simp [results, Try.results20, go_sem, zeroG, geoV]) rfl ⟨rfl, ?_⟩
  repeat (first | with_reducible exact Below.refl _ _ | with_reducible refine below_drewN ?_ _ | with_reducible refine Below.setCell ?_ ?_ _ | with_reducible refine Below.alloc ?_ ?_ _)
  all_goals (simp <;> omega)

set_option maxHeartbeats 1600000 in
set_option maxRecDepth 100000 in
theorem stake_bad (l : List UInt8) (A : Option Addr) (c : Nat) (w : World) (hl : l.length = 64) (hr : Rd w w.heap.size A (bytesV l)) (hc : 64 ≤ c) (h : ¬ Valid (numL l 4) (numL l 6) (numL l 8) (numL l 10)) :
    Calls Try.prog 20 #[.slice A 64 c] w fun e w' => e = .returned (.tuple #[zeroG, .int .i64 90]) ∧ Below w.heap.size w w' := by
  have H := Lib.hid h
  have HT := Lib.hid (takel4 l hl)
  have hd := hr.drop (k := 4) (c := c) (by rw [length_bytesV]; omega) (by rw [length_bytesV]; omega)
  rw [if_neg (by omega), ← bytesV_drop] at hd
  have hd8 := hd.take 8
  rw [← bytesV_take] at hd8
  have HD := Lib.hid hd8
  have HL := Lib.hid (show ((l.drop 4).take 8).length = 8 by simp [hl])
  have bJ := numL_lt l 4
  have bI := numL_lt l 6
  have bG := numL_lt l 8
  have bP := numL_lt l 10
  generalize numL l 4 = J at *
  generalize numL l 6 = I at *
  generalize numL l 8 = G at *
  generalize numL l 10 = P at *
  clear hd hd8 h
  go_enter Try.func20, Try.ntmps20
  go_wp2_with fail
  refine (take_ok ((l.drop 4).take 8) _ 8 (c - 4) 4 2 _ HL.out ((HD.out.below ((Below.refl _ w).alloc (Nat.le_refl _) _)).more (by simp)) (by omega) (by omega) (by omega) (by omega) (by omega)).mono ?_
  rintro e w1 ⟨v, rfl, hm1⟩
  rw [HT.out] at hm1
  obtain ⟨hown1, hb1⟩ := hm1
  obtain ⟨g1, c1, rfl, hc1⟩ := own_pos hown1 (by simp)
  have q0 : w1.cell? ⟨g1, 0, none⟩ = some (.int .u64 (J : Int)) := hown1.cellAt 0 (by simp)
  have q1 : w1.cell? ⟨g1, 1, none⟩ = some (.int .u64 (I : Int)) := hown1.cellAt 1 (by simp)
  have q2 : w1.cell? ⟨g1, 2, none⟩ = some (.int .u64 (G : Int)) := hown1.cellAt 2 (by simp)
  have q3 : w1.cell? ⟨g1, 3, none⟩ = some (.int .u64 (P : Int)) := hown1.cellAt 3 (by simp)
  have HK1 := Lib.hid ((Bk.new w 23 [.int .i64 0, .int .i64 0, .int .i64 0, .int .i64 0]).below hb1 (by simp))
  have HB1 := Lib.hid (((Below.refl _ w).alloc (Nat.le_refl _) _).trans (hb1.mono (by simp)))
  have e4 : [J, I, G, P].length = 4 := rfl
  rw [e4] at hc1
  clear hown1 hb1 e4
  have z1 : IntKind.i64.wrap (J : Int) = J := IntWalk.i64_in _ (by omega)
  have z2 : IntKind.i64.wrap (I : Int) = I := IntWalk.i64_in _ (by omega)
  have z3 : IntKind.i64.wrap (G : Int) = G := IntWalk.i64_in _ (by omega)
  have z4 : IntKind.i64.wrap (P : Int) = P := IntWalk.i64_in _ (by omega)
  go_wp2_with fail
  go_region_held3 (fun u => u.cell? ⟨g1, 0, none⟩ = some (.int .u64 (J : Int)) ∧ u.cell? ⟨g1, 1, none⟩ = some (.int .u64 (I : Int)) ∧ u.cell? ⟨g1, 2, none⟩ = some (.int .u64 (G : Int)) ∧ u.cell? ⟨g1, 3, none⟩ = some (.int .u64 (P : Int)) ∧ Below w.heap.size w u) (first | exact ⟨q0, q1, q2, q3, HB1.out.drew⟩ | exact keepA q0 q1 q2 q3 HB1.out) (first | fail)
  have HBa := Lib.hid (HB1.out.alloc HB1.out.size (.cells #[.int .i64 (J : Int), .int .i64 (I : Int), .int .i64 (G : Int), .int .i64 (P : Int)] 23)).drew
  have HKa : Hid (Bk (w1.alloc (.cells #[.int .i64 (J : Int), .int .i64 (I : Int), .int .i64 (G : Int), .int .i64 (P : Int)] 23)).drew w.heap.size 23 [.int .i64 0, .int .i64 0, .int .i64 0, .int .i64 0]) := HK1.out.below ((Below.refl _ w1).alloc (Nat.le_refl _) _).drew HK1.out.lt
  have HGa : Hid (Bk (w1.alloc (.cells #[.int .i64 (J : Int), .int .i64 (I : Int), .int .i64 (G : Int), .int .i64 (P : Int)] 23)).drew w1.heap.size 23 [.int .i64 (J : Int), .int .i64 (I : Int), .int .i64 (G : Int), .int .i64 (P : Int)]) := Bk.new w1 23 _
  obtain ⟨wa, hwa⟩ : ∃ wa, wa = (w1.alloc (.cells #[.int .i64 (J : Int), .int .i64 (I : Int), .int .i64 (G : Int), .int .i64 (P : Int)] 23)).drew := ⟨_, rfl⟩
  rw [← hwa] at HBa HKa HGa ⊢
  clear hwa q0 q1 q2 q3 z1 z2 z3 z4
  have e0 := HGa.out.cell 0
  have e1 := HGa.out.cell 1
  have e2 := HGa.out.cell 2
  have e3 := HGa.out.cell 3
  go_wp2_with fail
  clear e0 e1 e2 e3
  refine (slay_no H.out _).mono ?_
  rintro e w2 ⟨rfl, hb2⟩
  have HK2 := Lib.hid (HKa.out.below hb2 HKa.out.lt)
  have c0 := HK2.out.cell 0
  have c1 := HK2.out.cell 1
  have c2 := HK2.out.cell 2
  have c3 := HK2.out.cell 3
  have f0 := HK2.out.frozen 0
  have f1 := HK2.out.frozen 1
  have f2 := HK2.out.frozen 2
  have f3 := HK2.out.frozen 3
  have HB2 := Lib.hid (HBa.out.trans (hb2.mono HBa.out.size))
  clear hb2
  go_wp2_with fail
  refine bodyPost_ret (v := .tuple #[zeroG, .int .i64 90]) (by simp [results, Try.results20, go_sem, zeroG, geoV, c0, c1, c2, c3]) rfl ⟨rfl, ?_⟩
  repeat (first | with_reducible exact HB2.out | with_reducible refine Below.setCell ?_ ?_ _)
  all_goals simp

set_option maxHeartbeats 1600000 in
set_option maxRecDepth 100000 in
theorem stake_not (l : List UInt8) (A : Option Addr) (c : Nat) (w : World) (hl : l.length = 64) (hr : Rd w w.heap.size A (bytesV l)) (hc : 64 ≤ c) (h : Valid (numL l 4) (numL l 6) (numL l 8) (numL l 10)) (hne : l ≠ superL (numL l 4) (numL l 6) (numL l 8) (numL l 10)) :
    Calls Try.prog 20 #[.slice A 64 c] w fun e w' => e = .returned (.tuple #[zeroG, .int .i64 90]) ∧ Below w.heap.size w w' := by
  have H := Lib.hid h
  have Hne : Hid ((l == superL (numL l 4) (numL l 6) (numL l 8) (numL l 10)) = false) := by unfold Hid; simpa using hne
  have Hl := Lib.hid hl
  have HR := Lib.hid hr
  clear hne
  have HT := Lib.hid (takel4 l hl)
  have hd := hr.drop (k := 4) (c := c) (by rw [length_bytesV]; omega) (by rw [length_bytesV]; omega)
  rw [if_neg (by omega), ← bytesV_drop] at hd
  have hd8 := hd.take 8
  rw [← bytesV_take] at hd8
  have HD := Lib.hid hd8
  have HL := Lib.hid (show ((l.drop 4).take 8).length = 8 by simp [hl])
  have bJ := numL_lt l 4
  have bI := numL_lt l 6
  have bG := numL_lt l 8
  have bP := numL_lt l 10
  generalize numL l 4 = J at *
  generalize numL l 6 = I at *
  generalize numL l 8 = G at *
  generalize numL l 10 = P at *
  clear hd hd8 h hl hr
  go_enter Try.func20, Try.ntmps20
  go_wp2_with fail
  refine (take_ok ((l.drop 4).take 8) _ 8 (c - 4) 4 2 _ HL.out ((HD.out.below ((Below.refl _ w).alloc (Nat.le_refl _) _)).more (by simp)) (by omega) (by omega) (by omega) (by omega) (by omega)).mono ?_
  rintro e w1 ⟨v, rfl, hm1⟩
  rw [HT.out] at hm1
  obtain ⟨hown1, hb1⟩ := hm1
  obtain ⟨g1, c1, rfl, hc1⟩ := own_pos hown1 (by simp)
  have q0 : w1.cell? ⟨g1, 0, none⟩ = some (.int .u64 (J : Int)) := hown1.cellAt 0 (by simp)
  have q1 : w1.cell? ⟨g1, 1, none⟩ = some (.int .u64 (I : Int)) := hown1.cellAt 1 (by simp)
  have q2 : w1.cell? ⟨g1, 2, none⟩ = some (.int .u64 (G : Int)) := hown1.cellAt 2 (by simp)
  have q3 : w1.cell? ⟨g1, 3, none⟩ = some (.int .u64 (P : Int)) := hown1.cellAt 3 (by simp)
  have HK1 := Lib.hid ((Bk.new w 23 [.int .i64 0, .int .i64 0, .int .i64 0, .int .i64 0]).below hb1 (by simp))
  have HB1 := Lib.hid (((Below.refl _ w).alloc (Nat.le_refl _) _).trans (hb1.mono (by simp)))
  have e4 : [J, I, G, P].length = 4 := rfl
  rw [e4] at hc1
  clear hown1 hb1 e4
  have z1 : IntKind.i64.wrap (J : Int) = J := IntWalk.i64_in _ (by omega)
  have z2 : IntKind.i64.wrap (I : Int) = I := IntWalk.i64_in _ (by omega)
  have z3 : IntKind.i64.wrap (G : Int) = G := IntWalk.i64_in _ (by omega)
  have z4 : IntKind.i64.wrap (P : Int) = P := IntWalk.i64_in _ (by omega)
  go_wp2_with fail
  go_region_held3 (fun u => u.cell? ⟨g1, 0, none⟩ = some (.int .u64 (J : Int)) ∧ u.cell? ⟨g1, 1, none⟩ = some (.int .u64 (I : Int)) ∧ u.cell? ⟨g1, 2, none⟩ = some (.int .u64 (G : Int)) ∧ u.cell? ⟨g1, 3, none⟩ = some (.int .u64 (P : Int)) ∧ Below w.heap.size w u) (first | exact ⟨q0, q1, q2, q3, HB1.out.drew⟩ | exact keepA q0 q1 q2 q3 HB1.out) (first | fail)
  have HBa := Lib.hid (HB1.out.alloc HB1.out.size (.cells #[.int .i64 (J : Int), .int .i64 (I : Int), .int .i64 (G : Int), .int .i64 (P : Int)] 23)).drew
  have HKa : Hid (Bk (w1.alloc (.cells #[.int .i64 (J : Int), .int .i64 (I : Int), .int .i64 (G : Int), .int .i64 (P : Int)] 23)).drew w.heap.size 23 [.int .i64 0, .int .i64 0, .int .i64 0, .int .i64 0]) := HK1.out.below ((Below.refl _ w1).alloc (Nat.le_refl _) _).drew HK1.out.lt
  have HGa : Hid (Bk (w1.alloc (.cells #[.int .i64 (J : Int), .int .i64 (I : Int), .int .i64 (G : Int), .int .i64 (P : Int)] 23)).drew w1.heap.size 23 [.int .i64 (J : Int), .int .i64 (I : Int), .int .i64 (G : Int), .int .i64 (P : Int)]) := Bk.new w1 23 _
  obtain ⟨wa, hwa⟩ : ∃ wa, wa = (w1.alloc (.cells #[.int .i64 (J : Int), .int .i64 (I : Int), .int .i64 (G : Int), .int .i64 (P : Int)] 23)).drew := ⟨_, rfl⟩
  rw [← hwa] at HBa HKa HGa ⊢
  clear hwa q0 q1 q2 q3 z1 z2 z3 z4
  have e0 := HGa.out.cell 0
  have e1 := HGa.out.cell 1
  have e2 := HGa.out.cell 2
  have e3 := HGa.out.cell 3
  go_wp2_with fail
  clear e0 e1 e2 e3
  refine (slay_yes H.out _).mono ?_
  rintro e w2 ⟨v, rfl, hown2, hb2⟩
  rw [length_super] at hown2
  obtain ⟨_, A2, d2, rfl, hd2, _, hr2⟩ := own_rd hown2
  have HR2 := Lib.hid hr2
  have HS := Lib.hid (length_super J I G P)
  have HK2 := Lib.hid (HKa.out.below hb2 HKa.out.lt)
  have c0 := HK2.out.cell 0
  have c1 := HK2.out.cell 1
  have c2 := HK2.out.cell 2
  have c3 := HK2.out.cell 3
  have f0 := HK2.out.frozen 0
  have f1 := HK2.out.frozen 1
  have f2 := HK2.out.frozen 2
  have f3 := HK2.out.frozen 3
  have HB2 := Lib.hid (HBa.out.trans (hb2.mono HBa.out.size))
  clear hb2 hown2 hr2
  go_wp2_with (go_at_call 31; refine (equal_any l (superL J I G P) A 64 c A2 64 d2 _ _ _ Hl.out (HR.out.below HB2.out) HS.out HR2.out).mono ?_; rintro e w' ⟨rfl, rfl⟩; rw [Hne.out])
  refine bodyPost_ret (v := .tuple #[zeroG, .int .i64 90]) (by simp [results, Try.results20, go_sem, zeroG, geoV, c0, c1, c2, c3]) rfl ⟨rfl, ?_⟩
  repeat (first | with_reducible exact HB2.out | with_reducible refine Below.setCell ?_ ?_ _)
  all_goals simp

set_option maxHeartbeats 1600000 in
set_option maxRecDepth 100000 in
theorem stake_yes (l : List UInt8) (A : Option Addr) (c : Nat) (w : World) (hl : l.length = 64) (hr : Rd w w.heap.size A (bytesV l)) (hc : 64 ≤ c) (h : Valid (numL l 4) (numL l 6) (numL l 8) (numL l 10)) (hne : l = superL (numL l 4) (numL l 6) (numL l 8) (numL l 10)) :
    Calls Try.prog 20 #[.slice A 64 c] w fun e w' => e = .returned (.tuple #[geoV (numL l 4) (numL l 6) (numL l 8) (numL l 10), .int .i64 0]) ∧ Below w.heap.size w w' := by
  have H := Lib.hid h
  have Hne : Hid ((l == superL (numL l 4) (numL l 6) (numL l 8) (numL l 10)) = true) := by unfold Hid; simpa using hne
  have Hl := Lib.hid hl
  have HR := Lib.hid hr
  clear hne
  have HT := Lib.hid (takel4 l hl)
  have hd := hr.drop (k := 4) (c := c) (by rw [length_bytesV]; omega) (by rw [length_bytesV]; omega)
  rw [if_neg (by omega), ← bytesV_drop] at hd
  have hd8 := hd.take 8
  rw [← bytesV_take] at hd8
  have HD := Lib.hid hd8
  have HL := Lib.hid (show ((l.drop 4).take 8).length = 8 by simp [hl])
  have bJ := numL_lt l 4
  have bI := numL_lt l 6
  have bG := numL_lt l 8
  have bP := numL_lt l 10
  generalize numL l 4 = J at *
  generalize numL l 6 = I at *
  generalize numL l 8 = G at *
  generalize numL l 10 = P at *
  clear hd hd8 h hl hr
  go_enter Try.func20, Try.ntmps20
  go_wp2_with fail
  refine (take_ok ((l.drop 4).take 8) _ 8 (c - 4) 4 2 _ HL.out ((HD.out.below ((Below.refl _ w).alloc (Nat.le_refl _) _)).more (by simp)) (by omega) (by omega) (by omega) (by omega) (by omega)).mono ?_
  rintro e w1 ⟨v, rfl, hm1⟩
  rw [HT.out] at hm1
  obtain ⟨hown1, hb1⟩ := hm1
  obtain ⟨g1, c1, rfl, hc1⟩ := own_pos hown1 (by simp)
  have q0 : w1.cell? ⟨g1, 0, none⟩ = some (.int .u64 (J : Int)) := hown1.cellAt 0 (by simp)
  have q1 : w1.cell? ⟨g1, 1, none⟩ = some (.int .u64 (I : Int)) := hown1.cellAt 1 (by simp)
  have q2 : w1.cell? ⟨g1, 2, none⟩ = some (.int .u64 (G : Int)) := hown1.cellAt 2 (by simp)
  have q3 : w1.cell? ⟨g1, 3, none⟩ = some (.int .u64 (P : Int)) := hown1.cellAt 3 (by simp)
  have HK1 := Lib.hid ((Bk.new w 23 [.int .i64 0, .int .i64 0, .int .i64 0, .int .i64 0]).below hb1 (by simp))
  have HB1 := Lib.hid (((Below.refl _ w).alloc (Nat.le_refl _) _).trans (hb1.mono (by simp)))
  have e4 : [J, I, G, P].length = 4 := rfl
  rw [e4] at hc1
  clear hown1 hb1 e4
  have z1 : IntKind.i64.wrap (J : Int) = J := IntWalk.i64_in _ (by omega)
  have z2 : IntKind.i64.wrap (I : Int) = I := IntWalk.i64_in _ (by omega)
  have z3 : IntKind.i64.wrap (G : Int) = G := IntWalk.i64_in _ (by omega)
  have z4 : IntKind.i64.wrap (P : Int) = P := IntWalk.i64_in _ (by omega)
  go_wp2_with fail
  go_region_held3 (fun u => u.cell? ⟨g1, 0, none⟩ = some (.int .u64 (J : Int)) ∧ u.cell? ⟨g1, 1, none⟩ = some (.int .u64 (I : Int)) ∧ u.cell? ⟨g1, 2, none⟩ = some (.int .u64 (G : Int)) ∧ u.cell? ⟨g1, 3, none⟩ = some (.int .u64 (P : Int)) ∧ Below w.heap.size w u) (first | exact ⟨q0, q1, q2, q3, HB1.out.drew⟩ | exact keepA q0 q1 q2 q3 HB1.out) (first | fail)
  have HBa := Lib.hid (HB1.out.alloc HB1.out.size (.cells #[.int .i64 (J : Int), .int .i64 (I : Int), .int .i64 (G : Int), .int .i64 (P : Int)] 23)).drew
  have HKa : Hid (Bk (w1.alloc (.cells #[.int .i64 (J : Int), .int .i64 (I : Int), .int .i64 (G : Int), .int .i64 (P : Int)] 23)).drew w.heap.size 23 [.int .i64 0, .int .i64 0, .int .i64 0, .int .i64 0]) := HK1.out.below ((Below.refl _ w1).alloc (Nat.le_refl _) _).drew HK1.out.lt
  have HGa : Hid (Bk (w1.alloc (.cells #[.int .i64 (J : Int), .int .i64 (I : Int), .int .i64 (G : Int), .int .i64 (P : Int)] 23)).drew w1.heap.size 23 [.int .i64 (J : Int), .int .i64 (I : Int), .int .i64 (G : Int), .int .i64 (P : Int)]) := Bk.new w1 23 _
  obtain ⟨wa, hwa⟩ : ∃ wa, wa = (w1.alloc (.cells #[.int .i64 (J : Int), .int .i64 (I : Int), .int .i64 (G : Int), .int .i64 (P : Int)] 23)).drew := ⟨_, rfl⟩
  rw [← hwa] at HBa HKa HGa ⊢
  clear hwa q0 q1 q2 q3 z1 z2 z3 z4
  have e0 := HGa.out.cell 0
  have e1 := HGa.out.cell 1
  have e2 := HGa.out.cell 2
  have e3 := HGa.out.cell 3
  go_wp2_with fail
  clear e0 e1 e2 e3
  refine (slay_yes H.out _).mono ?_
  rintro e w2 ⟨v, rfl, hown2, hb2⟩
  rw [length_super] at hown2
  obtain ⟨_, A2, d2, rfl, hd2, _, hr2⟩ := own_rd hown2
  have HR2 := Lib.hid hr2
  have HS := Lib.hid (length_super J I G P)
  have HK2 := Lib.hid (HKa.out.below hb2 HKa.out.lt)
  have HG2 := Lib.hid (HGa.out.below hb2 HGa.out.lt)
  have d0' := HG2.out.cell 0
  have d1' := HG2.out.cell 1
  have d2' := HG2.out.cell 2
  have d3' := HG2.out.cell 3
  have c0 := HK2.out.cell 0
  have c1 := HK2.out.cell 1
  have c2 := HK2.out.cell 2
  have c3 := HK2.out.cell 3
  have f0 := HK2.out.frozen 0
  have f1 := HK2.out.frozen 1
  have f2 := HK2.out.frozen 2
  have f3 := HK2.out.frozen 3
  have HB2 := Lib.hid (HBa.out.trans (hb2.mono HBa.out.size))
  clear hb2 hown2 hr2
  go_wp2_with (go_at_call 31; refine (equal_any l (superL J I G P) A 64 c A2 64 d2 _ _ _ Hl.out (HR.out.below HB2.out) HS.out HR2.out).mono ?_; rintro e w' ⟨rfl, rfl⟩; rw [Hne.out])
  refine bodyPost_ret (v := .tuple #[geoV J I G P, .int .i64 0]) (by simp [results, Try.results20, go_sem, geoV, c0, c1, c2, c3]) rfl ⟨rfl, ?_⟩
  repeat (first | with_reducible exact HB2.out | with_reducible refine Below.setCell ?_ ?_ _)
  all_goals simp
end Go.Proofs.Ytcedpmakomhigaa
