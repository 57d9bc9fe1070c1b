/-
  SuperPlans: whatever the geometry and the block, whether it may be, where what lies, and the block's group, are the document's.
-/
import Derived.Test.YtcedpmakomhigaaO
import Derived.Deep.RegionHeld3
namespace Go.Proofs.Ytcedpmakomhigaa
open Go.ChangeShapes Go.WideShapes Go.ChangeAt Go.RowKit

theorem lt_of {w : World} {p : Addr} {v : Value} (h : w.cell? p = some v) : p.block < w.heap.size := World.block_lt_of_cell? w _ h
theorem keepC {w1 w2 : World} (hb : Below w1.heap.size w1 w2) {p : Addr} {v : Value} (h : w1.cell? p = some v) : w2.cell? p = some v := (hb.cell (lt_of h)).trans h
theorem keepS {w w1 w2 : World} {b0 b1 b2 : Nat} {v00 v01 v02 v03 v10 v11 v12 v13 v14 v15 v16 v20 v21 v22 v23 v24 v25 v26 : Value} (hb : Below w1.heap.size w1 w2) (h : w1.cell? ⟨b0, 0, none⟩ = some (v00) ∧ w1.cell? ⟨b0, 1, none⟩ = some (v01) ∧ w1.cell? ⟨b0, 2, none⟩ = some (v02) ∧ w1.cell? ⟨b0, 3, none⟩ = some (v03) ∧ w1.cell? ⟨b1, 0, none⟩ = some (v10) ∧ w1.cell? ⟨b1, 1, none⟩ = some (v11) ∧ w1.cell? ⟨b1, 2, none⟩ = some (v12) ∧ w1.cell? ⟨b1, 3, none⟩ = some (v13) ∧ w1.cell? ⟨b1, 4, none⟩ = some (v14) ∧ w1.cell? ⟨b1, 5, none⟩ = some (v15) ∧ w1.cell? ⟨b1, 6, none⟩ = some (v16) ∧ w1.cell? ⟨b2, 0, none⟩ = some (v20) ∧ w1.cell? ⟨b2, 1, none⟩ = some (v21) ∧ w1.cell? ⟨b2, 2, none⟩ = some (v22) ∧ w1.cell? ⟨b2, 3, none⟩ = some (v23) ∧ w1.cell? ⟨b2, 4, none⟩ = some (v24) ∧ w1.cell? ⟨b2, 5, none⟩ = some (v25) ∧ w1.cell? ⟨b2, 6, none⟩ = some (v26) ∧ Below w.heap.size w w1) :
    w2.cell? ⟨b0, 0, none⟩ = some (v00) ∧ w2.cell? ⟨b0, 1, none⟩ = some (v01) ∧ w2.cell? ⟨b0, 2, none⟩ = some (v02) ∧ w2.cell? ⟨b0, 3, none⟩ = some (v03) ∧ w2.cell? ⟨b1, 0, none⟩ = some (v10) ∧ w2.cell? ⟨b1, 1, none⟩ = some (v11) ∧ w2.cell? ⟨b1, 2, none⟩ = some (v12) ∧ w2.cell? ⟨b1, 3, none⟩ = some (v13) ∧ w2.cell? ⟨b1, 4, none⟩ = some (v14) ∧ w2.cell? ⟨b1, 5, none⟩ = some (v15) ∧ w2.cell? ⟨b1, 6, none⟩ = some (v16) ∧ w2.cell? ⟨b2, 0, none⟩ = some (v20) ∧ w2.cell? ⟨b2, 1, none⟩ = some (v21) ∧ w2.cell? ⟨b2, 2, none⟩ = some (v22) ∧ w2.cell? ⟨b2, 3, none⟩ = some (v23) ∧ w2.cell? ⟨b2, 4, none⟩ = some (v24) ∧ w2.cell? ⟨b2, 5, none⟩ = some (v25) ∧ w2.cell? ⟨b2, 6, none⟩ = some (v26) ∧ Below w.heap.size w w2 :=
  ⟨keepC hb h.1, keepC hb h.2.1, keepC hb h.2.2.1, keepC hb h.2.2.2.1, keepC hb h.2.2.2.2.1, keepC hb h.2.2.2.2.2.1, keepC hb h.2.2.2.2.2.2.1, keepC hb h.2.2.2.2.2.2.2.1, keepC hb h.2.2.2.2.2.2.2.2.1, keepC hb h.2.2.2.2.2.2.2.2.2.1, keepC hb h.2.2.2.2.2.2.2.2.2.2.1, keepC hb h.2.2.2.2.2.2.2.2.2.2.2.1, keepC hb h.2.2.2.2.2.2.2.2.2.2.2.2.1, keepC hb h.2.2.2.2.2.2.2.2.2.2.2.2.2.1, keepC hb h.2.2.2.2.2.2.2.2.2.2.2.2.2.2.1, keepC hb h.2.2.2.2.2.2.2.2.2.2.2.2.2.2.2.1, keepC hb h.2.2.2.2.2.2.2.2.2.2.2.2.2.2.2.2.1, keepC hb h.2.2.2.2.2.2.2.2.2.2.2.2.2.2.2.2.2.1, h.2.2.2.2.2.2.2.2.2.2.2.2.2.2.2.2.2.2.trans (hb.mono h.2.2.2.2.2.2.2.2.2.2.2.2.2.2.2.2.2.2.size)⟩

theorem start4 {w w1 : World} {b1 b2 : Nat} {j i g p a1 a2 a3 a4 a5 a6 a7 : Int} (h : w1.cell? ⟨w.heap.size, 0, none⟩ = some (.int .i64 j) ∧ w1.cell? ⟨w.heap.size, 1, none⟩ = some (.int .i64 i) ∧ w1.cell? ⟨w.heap.size, 2, none⟩ = some (.int .i64 g) ∧ w1.cell? ⟨w.heap.size, 3, none⟩ = some (.int .i64 p) ∧ w1.cell? ⟨b1, 0, none⟩ = some (.int .i64 a1) ∧ w1.cell? ⟨b1, 1, none⟩ = some (.int .i64 a2) ∧ w1.cell? ⟨b1, 2, none⟩ = some (.int .i64 a3) ∧ w1.cell? ⟨b1, 3, none⟩ = some (.int .i64 a4) ∧ w1.cell? ⟨b1, 4, none⟩ = some (.int .i64 a5) ∧ w1.cell? ⟨b1, 5, none⟩ = some (.int .i64 a6) ∧ w1.cell? ⟨b1, 6, none⟩ = some (.int .i64 a7) ∧ w1.cell? ⟨b2, 0, none⟩ = some (.int .i64 a1) ∧ w1.cell? ⟨b2, 1, none⟩ = some (.int .i64 a2) ∧ w1.cell? ⟨b2, 2, none⟩ = some (.int .i64 a3) ∧ w1.cell? ⟨b2, 3, none⟩ = some (.int .i64 a4) ∧ w1.cell? ⟨b2, 4, none⟩ = some (.int .i64 a5) ∧ w1.cell? ⟨b2, 5, none⟩ = some (.int .i64 a6) ∧ w1.cell? ⟨b2, 6, none⟩ = some (.int .i64 a7) ∧ Below w.heap.size w w1) : w1.drew.cell? ⟨w.heap.size, 0, none⟩ = some (.int .i64 j) ∧ w1.drew.cell? ⟨w.heap.size, 1, none⟩ = some (.int .i64 i) ∧ w1.drew.cell? ⟨w.heap.size, 2, none⟩ = some (.int .i64 g) ∧ w1.drew.cell? ⟨w.heap.size, 3, none⟩ = some (.int .i64 p) ∧ w1.drew.cell? ⟨b1, 0, none⟩ = some (.int .i64 a1) ∧ w1.drew.cell? ⟨b1, 1, none⟩ = some (.int .i64 a2) ∧ w1.drew.cell? ⟨b1, 2, none⟩ = some (.int .i64 a3) ∧ w1.drew.cell? ⟨b1, 3, none⟩ = some (.int .i64 a4) ∧ w1.drew.cell? ⟨b1, 4, none⟩ = some (.int .i64 a5) ∧ w1.drew.cell? ⟨b1, 5, none⟩ = some (.int .i64 a6) ∧ w1.drew.cell? ⟨b1, 6, none⟩ = some (.int .i64 a7) ∧ w1.drew.cell? ⟨b2, 0, none⟩ = some (.int .i64 a1) ∧ w1.drew.cell? ⟨b2, 1, none⟩ = some (.int .i64 a2) ∧ w1.drew.cell? ⟨b2, 2, none⟩ = some (.int .i64 a3) ∧ w1.drew.cell? ⟨b2, 3, none⟩ = some (.int .i64 a4) ∧ w1.drew.cell? ⟨b2, 4, none⟩ = some (.int .i64 a5) ∧ w1.drew.cell? ⟨b2, 5, none⟩ = some (.int .i64 a6) ∧ w1.drew.cell? ⟨b2, 6, none⟩ = some (.int .i64 a7) ∧ Below w.heap.size w w1.drew :=
  ⟨h.1, h.2.1, h.2.2.1, h.2.2.2.1, h.2.2.2.2.1, h.2.2.2.2.2.1, h.2.2.2.2.2.2.1, h.2.2.2.2.2.2.2.1, h.2.2.2.2.2.2.2.2.1, h.2.2.2.2.2.2.2.2.2.1, h.2.2.2.2.2.2.2.2.2.2.1, h.2.2.2.2.2.2.2.2.2.2.2.1, h.2.2.2.2.2.2.2.2.2.2.2.2.1, h.2.2.2.2.2.2.2.2.2.2.2.2.2.1, h.2.2.2.2.2.2.2.2.2.2.2.2.2.2.1, h.2.2.2.2.2.2.2.2.2.2.2.2.2.2.2.1, h.2.2.2.2.2.2.2.2.2.2.2.2.2.2.2.2.1, h.2.2.2.2.2.2.2.2.2.2.2.2.2.2.2.2.2.1, h.2.2.2.2.2.2.2.2.2.2.2.2.2.2.2.2.2.2.drew⟩

set_option maxHeartbeats 1600000 in
set_option maxRecDepth 100000 in
theorem plans_body (j i g p x : Int) (vB y : Bool) (a1 a2 a3 a4 a5 a6 a7 er q m : Int) (w : World)
    (H9 : Hid (∀ w, Calls Try.prog 9 #[geoV j i g p] w fun e w' => e = .returned (.tuple #[layoutV a1 a2 a3 a4 a5 a6 a7, .int .i64 er]) ∧ Below w.heap.size w w'))
    (H10 : Hid (∀ w, Calls Try.prog 10 #[geoV j i g p] w fun e w' => e = .returned (.tuple #[layoutV a1 a2 a3 a4 a5 a6 a7, .int .i64 er]) ∧ Below w.heap.size w w'))
    (H11 : Hid (∀ w, Calls Try.prog 11 #[geoV j i g p, .int .i64 x] w fun e w' => e = .returned (.tuple #[.int .i64 q, .bool y]) ∧ Below w.heap.size w w'))
    (H12 : Hid (∀ w, Calls Try.prog 12 #[geoV j i g p, .int .i64 x] w fun e w' => e = .returned (.tuple #[.int .i64 q, .bool y]) ∧ Below w.heap.size w w'))
    (H14 : Hid (∀ w, Calls Try.prog 14 #[geoV j i g p] w fun e w' => e = .returned (.bool vB) ∧ Below w.heap.size w w'))
    (H15 : Hid (∀ w, Calls Try.prog 15 #[geoV j i g p] w fun e w' => e = .returned (.bool vB) ∧ Below w.heap.size w w'))
    (H16 : Hid (∀ w, Calls Try.prog 16 #[geoV j i g p] w fun e w' => e = .returned (.int .i64 m) ∧ Below w.heap.size w w'))
    (H17 : Hid (∀ w, Calls Try.prog 17 #[geoV j i g p] w fun e w' => e = .returned (.int .i64 m) ∧ Below w.heap.size w w')) :
    Calls Try.prog 3 #[geoV j i g p, .int .i64 x] w fun e w' => e = .returned (.bool true) ∧ Below w.heap.size w w' := by
  have ls := layout_same
  have lg := guard_at25
  unfold geoV layoutV at *
  go_enter Try.func3, Try.ntmps3
  go_wp2_with fail
  refine (H9.out _).mono ?_
  rintro e w1 ⟨rfl, hb1⟩
  obtain ⟨c0, c1, c2, c3, hb1', hs1⟩ := kept_cells hb1
  have HB1 := Lib.hid hb1'
  clear hb1 hb1'
  go_wp2_with fail
  refine (H10.out _).mono ?_
  rintro e w2 ⟨rfl, hb2⟩
  have hal : Below w1.heap.size w1 w2 := ((Below.refl _ w1).alloc (Nat.le_refl _) _).trans (hb2.mono (by simp))
  have k0 := keepC hal c0
  have k1 := keepC hal c1
  have k2 := keepC hal c2
  have k3 := keepC hal c3
  have hK : Bk w2 w1.heap.size 25 [.int .i64 a1, .int .i64 a2, .int .i64 a3, .int .i64 a4, .int .i64 a5, .int .i64 a6, .int .i64 a7] := (Bk.new w1 25 _).below hb2 (by simp)
  have HK := Lib.hid hK
  have HB2 := Lib.hid (HB1.out.trans (hal.mono HB1.out.size))
  have hs2 : w.heap.size < w2.heap.size := lt_of k0
  clear hb2 hal hK c0 c1 c2 c3
  go_wp2_with fail
  refine (H11.out _).mono ?_
  rintro e w3 ⟨rfl, hb3⟩
  have hal : Below w2.heap.size w2 w3 := ((Below.refl _ w2).alloc (Nat.le_refl _) _).trans (hb3.mono (by simp))
  have c0 := keepC hal k0
  have c1 := keepC hal k1
  have c2 := keepC hal k2
  have c3 := keepC hal k3
  have HK1 := Lib.hid (HK.out.below hal HK.out.lt)
  have hK : Bk w3 w2.heap.size 25 [.int .i64 a1, .int .i64 a2, .int .i64 a3, .int .i64 a4, .int .i64 a5, .int .i64 a6, .int .i64 a7] := (Bk.new w2 25 _).below hb3 (by simp)
  have HK2 := Lib.hid hK
  have HB3 := Lib.hid (HB2.out.trans (hal.mono HB2.out.size))
  have hs3 : w.heap.size < w3.heap.size := lt_of c0
  clear hb3 hal hK k0 k1 k2 k3
  go_wp2_with fail
  refine (H12.out _).mono ?_
  rintro e w4 ⟨rfl, hb4⟩
  have HS4 : Hid (w4.cell? ⟨w.heap.size, 0, none⟩ = some (.int .i64 j) ∧ w4.cell? ⟨w.heap.size, 1, none⟩ = some (.int .i64 i) ∧ w4.cell? ⟨w.heap.size, 2, none⟩ = some (.int .i64 g) ∧ w4.cell? ⟨w.heap.size, 3, none⟩ = some (.int .i64 p) ∧ w4.cell? ⟨w1.heap.size, 0, none⟩ = some (.int .i64 a1) ∧ w4.cell? ⟨w1.heap.size, 1, none⟩ = some (.int .i64 a2) ∧ w4.cell? ⟨w1.heap.size, 2, none⟩ = some (.int .i64 a3) ∧ w4.cell? ⟨w1.heap.size, 3, none⟩ = some (.int .i64 a4) ∧ w4.cell? ⟨w1.heap.size, 4, none⟩ = some (.int .i64 a5) ∧ w4.cell? ⟨w1.heap.size, 5, none⟩ = some (.int .i64 a6) ∧ w4.cell? ⟨w1.heap.size, 6, none⟩ = some (.int .i64 a7) ∧ w4.cell? ⟨w2.heap.size, 0, none⟩ = some (.int .i64 a1) ∧ w4.cell? ⟨w2.heap.size, 1, none⟩ = some (.int .i64 a2) ∧ w4.cell? ⟨w2.heap.size, 2, none⟩ = some (.int .i64 a3) ∧ w4.cell? ⟨w2.heap.size, 3, none⟩ = some (.int .i64 a4) ∧ w4.cell? ⟨w2.heap.size, 4, none⟩ = some (.int .i64 a5) ∧ w4.cell? ⟨w2.heap.size, 5, none⟩ = some (.int .i64 a6) ∧ w4.cell? ⟨w2.heap.size, 6, none⟩ = some (.int .i64 a7) ∧ Below w.heap.size w w4) := ⟨keepC hb4 c0, keepC hb4 c1, keepC hb4 c2, keepC hb4 c3, keepC hb4 (HK1.out.cell 0), keepC hb4 (HK1.out.cell 1), keepC hb4 (HK1.out.cell 2), keepC hb4 (HK1.out.cell 3), keepC hb4 (HK1.out.cell 4), keepC hb4 (HK1.out.cell 5), keepC hb4 (HK1.out.cell 6), keepC hb4 (HK2.out.cell 0), keepC hb4 (HK2.out.cell 1), keepC hb4 (HK2.out.cell 2), keepC hb4 (HK2.out.cell 3), keepC hb4 (HK2.out.cell 4), keepC hb4 (HK2.out.cell 5), keepC hb4 (HK2.out.cell 6), HB3.out.trans (hb4.mono HB3.out.size)⟩
  clear hb4 c0 c1 c2 c3 HK HK1 HK2
  obtain ⟨b1, hb1⟩ : ∃ b, b = w1.heap.size := ⟨_, rfl⟩
  obtain ⟨b2, hb2⟩ : ∃ b, b = w2.heap.size := ⟨_, rfl⟩
  rw [← hb1, ← hb2] at HS4 ⊢
  clear hb1 hb2
  go_wp2_with fail
  go_region_held3 (fun u => u.cell? ⟨w.heap.size, 0, none⟩ = some (.int .i64 j) ∧ u.cell? ⟨w.heap.size, 1, none⟩ = some (.int .i64 i) ∧ u.cell? ⟨w.heap.size, 2, none⟩ = some (.int .i64 g) ∧ u.cell? ⟨w.heap.size, 3, none⟩ = some (.int .i64 p) ∧ u.cell? ⟨b1, 0, none⟩ = some (.int .i64 a1) ∧ u.cell? ⟨b1, 1, none⟩ = some (.int .i64 a2) ∧ u.cell? ⟨b1, 2, none⟩ = some (.int .i64 a3) ∧ u.cell? ⟨b1, 3, none⟩ = some (.int .i64 a4) ∧ u.cell? ⟨b1, 4, none⟩ = some (.int .i64 a5) ∧ u.cell? ⟨b1, 5, none⟩ = some (.int .i64 a6) ∧ u.cell? ⟨b1, 6, none⟩ = some (.int .i64 a7) ∧ u.cell? ⟨b2, 0, none⟩ = some (.int .i64 a1) ∧ u.cell? ⟨b2, 1, none⟩ = some (.int .i64 a2) ∧ u.cell? ⟨b2, 2, none⟩ = some (.int .i64 a3) ∧ u.cell? ⟨b2, 3, none⟩ = some (.int .i64 a4) ∧ u.cell? ⟨b2, 4, none⟩ = some (.int .i64 a5) ∧ u.cell? ⟨b2, 5, none⟩ = some (.int .i64 a6) ∧ u.cell? ⟨b2, 6, none⟩ = some (.int .i64 a7) ∧ Below w.heap.size w u)
    (first | exact keepS hb (by assumption) | exact start4 HS4.out)
    (first | (go_at_call 13; refine (shown_any _).mono ?_; rintro e w' ⟨rfl, hb⟩; have hB := (keepS hb (by assumption)).2.2.2.2.2.2.2.2.2.2.2.2.2.2.2.2.2.2) | (go_at_call 14; refine (H14.out _).mono ?_; rintro e w' ⟨rfl, hb⟩; have hB := (keepS hb (by assumption)).2.2.2.2.2.2.2.2.2.2.2.2.2.2.2.2.2.2) | (go_at_call 15; refine (H15.out _).mono ?_; rintro e w' ⟨rfl, hb⟩; have hB := (keepS hb (by assumption)).2.2.2.2.2.2.2.2.2.2.2.2.2.2.2.2.2.2) | (go_at_call 16; refine (H16.out _).mono ?_; rintro e w' ⟨rfl, hb⟩; have hB := (keepS hb (by assumption)).2.2.2.2.2.2.2.2.2.2.2.2.2.2.2.2.2.2) | (go_at_call 17; refine (H17.out _).mono ?_; rintro e w' ⟨rfl, hb⟩; have hB := (keepS hb (by assumption)).2.2.2.2.2.2.2.2.2.2.2.2.2.2.2.2.2.2))
  all_goals
    go_wp2
    go_ret
    exact ⟨rfl, hB⟩

theorem plans_walk (j i g p x : Int) (w : World) : Calls Try.prog 3 #[geoV j i g p, .int .i64 x] w fun e w' => e = .returned (.bool true) ∧ Below w.heap.size w w' := by
  by_cases h : Valid j i g p
  · have H14 := Lib.hid (fun w => (right_yes h w).mono fun e w' k => ⟨k.1, k.2.below⟩ : ∀ w, Calls Try.prog 14 #[geoV j i g p] w fun e w' => e = .returned (.bool true) ∧ Below w.heap.size w w')
    have H15 := Lib.hid (fun w => (rright_yes h w).mono fun e w' k => ⟨k.1, k.2.below⟩ : ∀ w, Calls Try.prog 15 #[geoV j i g p] w fun e w' => e = .returned (.bool true) ∧ Below w.heap.size w w')
    by_cases hx : InB g p x
    · exact plans_body j i g p x true true _ _ _ _ _ _ _ 0 (x / p) (3 + i / 2) w (plan_yes h) (rplan_yes h) (group_yes x h hx) (rgroup_yes x h hx) H14 H15 (meta_yes h) (rmeta_yes h)
    · exact plans_body j i g p x true false _ _ _ _ _ _ _ 0 0 (3 + i / 2) w (plan_yes h) (rplan_yes h) (group_no x h hx) (rgroup_no x h hx) H14 H15 (meta_yes h) (rmeta_yes h)
  · exact plans_body j i g p x false false 0 0 0 0 0 0 0 1 0 0 w (plan_no h) (rplan_no h) (group_none x h) (rgroup_none x h) (Lib.hid fun w => (right_no h w).mono fun e w' k => ⟨k.1, k.2.below⟩) (Lib.hid fun w => (rright_no h w).mono fun e w' k => ⟨k.1, k.2.below⟩) (meta_no h) (rmeta_no h)

theorem plans_contract (H : Type) (enc : TypeId × Value → H) (W : World) (base : Nat) (args : Array Value) (ds gs : List (DataW H)) (before : List MemPlace)
    (hval : ∀ (j : Nat) t v, Try.f3.params[j]? = some t → args[j]? = some v → Value.okWide Try.prog W .any base t v)
    (hW : DataW.Whole enc Try.prog Try.f3.params.toList Rows.superPlansSpec.vars false W args.toList ds gs before) :
    Calls Try.prog 3 args W fun e W' => ∃ v, e = .returned v ∧ Rows.superPlansSpec.post enc Try.prog Try.f3 false true false false W args v W' := by
  have hW' := hW
  have hlt : ∀ x ∈ before, x.block < W.heap.size := fun x hx => hW.lt x hx
  obtain ⟨p, q, hA0, hV, rfl, _, _⟩ := hW
  have hA : DataW.TrodAll enc Try.prog W 0 (fun _ => true) true Try.f3.params.toList args.toList ds p := hA0
  rw [Try.params3] at hA hval
  obtain ⟨v0, vs0, d0, ds0, p0, q0, hargs, rfl, rfl, h0, r0⟩ := trodAll_cons hA
  obtain ⟨v1, vs1, d1, ds1, p1, q1, rfl, rfl, rfl, h1, r1⟩ := trodAll_cons r0
  obtain ⟨rfl, rfl, rfl⟩ := trodAll_nil r1
  obtain rfl : args = #[v0, v1] := by cases args; simp_all
  obtain ⟨rfl, rfl⟩ := trodVars_none hV
  clear hA0
  obtain ⟨j0, i0, g0, p0, rfl, bj0, bi0, bg0, bp0⟩ := open_geo (hval 0 23 v0 rfl rfl) h0
  obtain ⟨a1, rfl, rfl, rfl, wa1⟩ := open_int Try.underlying3 (hval 1 3 v1 rfl rfl) h1
  have bd1 := bounds_i64 wa1
  refine (plans_walk j0 i0 g0 p0 a1 W).mono fun e W' ⟨he, hb⟩ => ?_
  subst he
  exact ⟨_, rfl, law_post laid (by kernel_rfl) Try.underlying4 (by rw [Try.params3]; decide +kernel) rfl hW' ⟨rfl, rfl, rfl⟩ hb⟩

set_option maxRecDepth 100000 in
theorem plans_lifted (os : Os) (started : os.Started) (H : Type) (enc : TypeId × Value → H) :
    ReturnsInHanded {} Try.checked os 3 .any (Rows.superPlansSpec.pre6 enc Try.prog Try.f3 Rows.superPlansRow.domain false) (Rows.superPlansSpec.post enc Try.prog Try.f3 false true false false) := by
  refine returnsInHanded_of_change (C := Try.checked) own started (by kernel_rfl) Try.func3
    (ChangeSpec.witness6 (enc := enc) (C := Try.checked) false ⟨#[], #[.agg #[.int .i64 0, .int .i64 0, .int .i64 0, .int .i64 0], .int .i64 0], []⟩ 8 (by kernel_rfl) (by kernel_rfl) (by kernel_rfl) (by kernel_rfl)) ?_
  intro W base args ds gs before hval hW _ _
  exact plans_contract H enc W base args ds gs before hval hW

/-- SuperPlans is true for every input. -/
theorem plans_holds : Rows.SuperPlansSaid :=
  OpenClaim.holds_of_wide 3 Try.f3 rfl rfl rfl rfl rfl rfl rfl ⟨rfl, rfl, rfl, rfl, rfl⟩ rfl rfl rfl rfl rfl (by kernel_rfl) Try.func3 (by kernel_rfl)
    (of_decide_eq_true (by kernel_rfl)) (by unfold Func.isWrapper; first | (rw [if_pos (by decide +kernel)]; kernel_rfl) | (rw [if_neg (by decide +kernel)]; exact ⟨rfl, rfl⟩))
    (fun os started H enc _ => plans_lifted os started H enc)
end Go.Proofs.Ytcedpmakomhigaa
