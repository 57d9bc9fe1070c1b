/-
  SuperMore: whatever the geometry, a block more in each group makes the disk as much longer, and moves nothing that is ahead of the blocks.
-/
import Derived.Test.YtcedpmakomhigaaO
import Derived.Deep.RegionHeld3
namespace Go.Proofs.Ytcedpmakomhigaa
open Go.ChangeShapes Go.WideShapes Go.ChangeAt Go.RowKit

theorem lt_of {w : World} {p : Addr} {v : Value} (h : w.cell? p = some v) : p.block < w.heap.size := World.block_lt_of_cell? w _ h
theorem keepC {w1 w2 : World} (hb : Below w1.heap.size w1 w2) {p : Addr} {v : Value} (h : w1.cell? p = some v) : w2.cell? p = some v := (hb.cell (lt_of h)).trans h
/-- A layout and a geometry as they lie, behind a call. -/
theorem kept_two {w1 w2 : World} {xs ys : List Value} (hb : Below ((w1.alloc (.cells xs.toArray 25)).alloc (.cells ys.toArray 23)).heap.size ((w1.alloc (.cells xs.toArray 25)).alloc (.cells ys.toArray 23)) w2) :
    Bk w2 w1.heap.size 25 xs ∧ Bk w2 (w1.heap.size + 1) 23 ys ∧ Below w1.heap.size w1 w2 ∧ w1.heap.size + 2 ≤ w2.heap.size := by
  have e1 : (w1.alloc (.cells xs.toArray 25)).heap.size = w1.heap.size + 1 := by simp
  have h1 : Bk ((w1.alloc (.cells xs.toArray 25)).alloc (.cells ys.toArray 23)) w1.heap.size 25 xs := (Bk.new w1 25 xs).below ((Below.refl _ _).alloc (Nat.le_refl _) _) (by simp)
  have h2 : Bk ((w1.alloc (.cells xs.toArray 25)).alloc (.cells ys.toArray 23)) (w1.heap.size + 1) 23 ys := by
    have := Bk.new (w1.alloc (.cells xs.toArray 25)) 23 ys
    rw [e1] at this
    exact this
  have hs := hb.size
  simp at hs
  exact ⟨h1.below hb (by simp; omega), h2.below hb (by simp), (((Below.refl _ w1).alloc (Nat.le_refl _) _).alloc (by simp) _).trans (hb.mono (by simp; omega)), by omega⟩

theorem keepM {w w1 w2 : World} {b0 b1 b2 b3 : Nat} {v00 v01 v02 v03 v10 v11 v12 v13 v14 v15 v16 v20 v21 v22 v23 v30 v31 v32 v33 v34 v35 v36 : Value} (hb : Below w1.heap.size w1 w2) (h : w1.cell? ⟨b0, 0, none⟩ = some (v00) ∧ w1.cell? ⟨b0, 1, none⟩ = some (v01) ∧ w1.cell? ⟨b0, 2, none⟩ = some (v02) ∧ w1.cell? ⟨b0, 3, none⟩ = some (v03) ∧ w1.cell? ⟨b1, 0, none⟩ = some (v10) ∧ w1.cell? ⟨b1, 1, none⟩ = some (v11) ∧ w1.cell? ⟨b1, 2, none⟩ = some (v12) ∧ w1.cell? ⟨b1, 3, none⟩ = some (v13) ∧ w1.cell? ⟨b1, 4, none⟩ = some (v14) ∧ w1.cell? ⟨b1, 5, none⟩ = some (v15) ∧ w1.cell? ⟨b1, 6, none⟩ = some (v16) ∧ w1.cell? ⟨b2, 0, none⟩ = some (v20) ∧ w1.cell? ⟨b2, 1, none⟩ = some (v21) ∧ w1.cell? ⟨b2, 2, none⟩ = some (v22) ∧ w1.cell? ⟨b2, 3, none⟩ = some (v23) ∧ w1.cell? ⟨b3, 0, none⟩ = some (v30) ∧ w1.cell? ⟨b3, 1, none⟩ = some (v31) ∧ w1.cell? ⟨b3, 2, none⟩ = some (v32) ∧ w1.cell? ⟨b3, 3, none⟩ = some (v33) ∧ w1.cell? ⟨b3, 4, none⟩ = some (v34) ∧ w1.cell? ⟨b3, 5, none⟩ = some (v35) ∧ w1.cell? ⟨b3, 6, none⟩ = some (v36) ∧ Below w.heap.size w w1) :
    w2.cell? ⟨b0, 0, none⟩ = some (v00) ∧ w2.cell? ⟨b0, 1, none⟩ = some (v01) ∧ w2.cell? ⟨b0, 2, none⟩ = some (v02) ∧ w2.cell? ⟨b0, 3, none⟩ = some (v03) ∧ w2.cell? ⟨b1, 0, none⟩ = some (v10) ∧ w2.cell? ⟨b1, 1, none⟩ = some (v11) ∧ w2.cell? ⟨b1, 2, none⟩ = some (v12) ∧ w2.cell? ⟨b1, 3, none⟩ = some (v13) ∧ w2.cell? ⟨b1, 4, none⟩ = some (v14) ∧ w2.cell? ⟨b1, 5, none⟩ = some (v15) ∧ w2.cell? ⟨b1, 6, none⟩ = some (v16) ∧ w2.cell? ⟨b2, 0, none⟩ = some (v20) ∧ w2.cell? ⟨b2, 1, none⟩ = some (v21) ∧ w2.cell? ⟨b2, 2, none⟩ = some (v22) ∧ w2.cell? ⟨b2, 3, none⟩ = some (v23) ∧ w2.cell? ⟨b3, 0, none⟩ = some (v30) ∧ w2.cell? ⟨b3, 1, none⟩ = some (v31) ∧ w2.cell? ⟨b3, 2, none⟩ = some (v32) ∧ w2.cell? ⟨b3, 3, none⟩ = some (v33) ∧ w2.cell? ⟨b3, 4, none⟩ = some (v34) ∧ w2.cell? ⟨b3, 5, none⟩ = some (v35) ∧ w2.cell? ⟨b3, 6, none⟩ = some (v36) ∧ Below w.heap.size w w2 :=
  ⟨keepC hb h.1, keepC hb h.2.1, keepC hb h.2.2.1, keepC hb h.2.2.2.1, keepC hb h.2.2.2.2.1, keepC hb h.2.2.2.2.2.1, keepC hb h.2.2.2.2.2.2.1, keepC hb h.2.2.2.2.2.2.2.1, keepC hb h.2.2.2.2.2.2.2.2.1, keepC hb h.2.2.2.2.2.2.2.2.2.1, keepC hb h.2.2.2.2.2.2.2.2.2.2.1, keepC hb h.2.2.2.2.2.2.2.2.2.2.2.1, keepC hb h.2.2.2.2.2.2.2.2.2.2.2.2.1, keepC hb h.2.2.2.2.2.2.2.2.2.2.2.2.2.1, keepC hb h.2.2.2.2.2.2.2.2.2.2.2.2.2.2.1, keepC hb h.2.2.2.2.2.2.2.2.2.2.2.2.2.2.2.1, keepC hb h.2.2.2.2.2.2.2.2.2.2.2.2.2.2.2.2.1, keepC hb h.2.2.2.2.2.2.2.2.2.2.2.2.2.2.2.2.2.1, keepC hb h.2.2.2.2.2.2.2.2.2.2.2.2.2.2.2.2.2.2.1, keepC hb h.2.2.2.2.2.2.2.2.2.2.2.2.2.2.2.2.2.2.2.1, keepC hb h.2.2.2.2.2.2.2.2.2.2.2.2.2.2.2.2.2.2.2.2.1, keepC hb h.2.2.2.2.2.2.2.2.2.2.2.2.2.2.2.2.2.2.2.2.2.1, h.2.2.2.2.2.2.2.2.2.2.2.2.2.2.2.2.2.2.2.2.2.2.trans (hb.mono h.2.2.2.2.2.2.2.2.2.2.2.2.2.2.2.2.2.2.2.2.2.2.size)⟩
theorem startM {w w1 : World} {b1 b6 b2 : Nat} {j i g p a1 a2 a3 a4 a5 a6 a7 : Int} (h : w1.cell? ⟨w.heap.size, 0, none⟩ = some (.int .i64 j) ∧ w1.cell? ⟨w.heap.size, 1, none⟩ = some (.int .i64 i) ∧ w1.cell? ⟨w.heap.size, 2, none⟩ = some (.int .i64 g) ∧ w1.cell? ⟨w.heap.size, 3, none⟩ = some (.int .i64 p) ∧ w1.cell? ⟨b1, 0, none⟩ = some (.int .i64 a1) ∧ w1.cell? ⟨b1, 1, none⟩ = some (.int .i64 a2) ∧ w1.cell? ⟨b1, 2, none⟩ = some (.int .i64 a3) ∧ w1.cell? ⟨b1, 3, none⟩ = some (.int .i64 a4) ∧ w1.cell? ⟨b1, 4, none⟩ = some (.int .i64 a5) ∧ w1.cell? ⟨b1, 5, none⟩ = some (.int .i64 a6) ∧ w1.cell? ⟨b1, 6, none⟩ = some (.int .i64 a7) ∧ w1.cell? ⟨b6, 0, none⟩ = some (.int .i64 j) ∧ w1.cell? ⟨b6, 1, none⟩ = some (.int .i64 i) ∧ w1.cell? ⟨b6, 2, none⟩ = some (.int .i64 g) ∧ w1.cell? ⟨b6, 3, none⟩ = some (.int .i64 (p + 1)) ∧ w1.cell? ⟨b2, 0, none⟩ = some (.int .i64 a1) ∧ w1.cell? ⟨b2, 1, none⟩ = some (.int .i64 a2) ∧ w1.cell? ⟨b2, 2, none⟩ = some (.int .i64 a3) ∧ w1.cell? ⟨b2, 3, none⟩ = some (.int .i64 a4) ∧ w1.cell? ⟨b2, 4, none⟩ = some (.int .i64 a5) ∧ w1.cell? ⟨b2, 5, none⟩ = some (.int .i64 a6) ∧ w1.cell? ⟨b2, 6, none⟩ = some (.int .i64 a7) ∧ Below w.heap.size w w1) : w1.drew.cell? ⟨w.heap.size, 0, none⟩ = some (.int .i64 j) ∧ w1.drew.cell? ⟨w.heap.size, 1, none⟩ = some (.int .i64 i) ∧ w1.drew.cell? ⟨w.heap.size, 2, none⟩ = some (.int .i64 g) ∧ w1.drew.cell? ⟨w.heap.size, 3, none⟩ = some (.int .i64 p) ∧ w1.drew.cell? ⟨b1, 0, none⟩ = some (.int .i64 a1) ∧ w1.drew.cell? ⟨b1, 1, none⟩ = some (.int .i64 a2) ∧ w1.drew.cell? ⟨b1, 2, none⟩ = some (.int .i64 a3) ∧ w1.drew.cell? ⟨b1, 3, none⟩ = some (.int .i64 a4) ∧ w1.drew.cell? ⟨b1, 4, none⟩ = some (.int .i64 a5) ∧ w1.drew.cell? ⟨b1, 5, none⟩ = some (.int .i64 a6) ∧ w1.drew.cell? ⟨b1, 6, none⟩ = some (.int .i64 a7) ∧ w1.drew.cell? ⟨b6, 0, none⟩ = some (.int .i64 j) ∧ w1.drew.cell? ⟨b6, 1, none⟩ = some (.int .i64 i) ∧ w1.drew.cell? ⟨b6, 2, none⟩ = some (.int .i64 g) ∧ w1.drew.cell? ⟨b6, 3, none⟩ = some (.int .i64 (p + 1)) ∧ w1.drew.cell? ⟨b2, 0, none⟩ = some (.int .i64 a1) ∧ w1.drew.cell? ⟨b2, 1, none⟩ = some (.int .i64 a2) ∧ w1.drew.cell? ⟨b2, 2, none⟩ = some (.int .i64 a3) ∧ w1.drew.cell? ⟨b2, 3, none⟩ = some (.int .i64 a4) ∧ w1.drew.cell? ⟨b2, 4, none⟩ = some (.int .i64 a5) ∧ w1.drew.cell? ⟨b2, 5, none⟩ = some (.int .i64 a6) ∧ w1.drew.cell? ⟨b2, 6, none⟩ = some (.int .i64 a7) ∧ Below w.heap.size w w1.drew :=
  ⟨h.1, h.2.1, h.2.2.1, h.2.2.2.1, h.2.2.2.2.1, h.2.2.2.2.2.1, h.2.2.2.2.2.2.1, h.2.2.2.2.2.2.2.1, h.2.2.2.2.2.2.2.2.1, h.2.2.2.2.2.2.2.2.2.1, h.2.2.2.2.2.2.2.2.2.2.1, h.2.2.2.2.2.2.2.2.2.2.2.1, h.2.2.2.2.2.2.2.2.2.2.2.2.1, h.2.2.2.2.2.2.2.2.2.2.2.2.2.1, h.2.2.2.2.2.2.2.2.2.2.2.2.2.2.1, h.2.2.2.2.2.2.2.2.2.2.2.2.2.2.2.1, h.2.2.2.2.2.2.2.2.2.2.2.2.2.2.2.2.1, h.2.2.2.2.2.2.2.2.2.2.2.2.2.2.2.2.2.1, h.2.2.2.2.2.2.2.2.2.2.2.2.2.2.2.2.2.2.1, h.2.2.2.2.2.2.2.2.2.2.2.2.2.2.2.2.2.2.2.1, h.2.2.2.2.2.2.2.2.2.2.2.2.2.2.2.2.2.2.2.2.1, h.2.2.2.2.2.2.2.2.2.2.2.2.2.2.2.2.2.2.2.2.2.1, h.2.2.2.2.2.2.2.2.2.2.2.2.2.2.2.2.2.2.2.2.2.2.drew⟩

set_option maxHeartbeats 1600000 in
set_option maxRecDepth 100000 in
theorem more_bad (j i g p : Int) (a1 a2 a3 a4 a5 a6 a7 d1 d2 d3 d4 d5 d6 d7 er : Int) (w : World) (hp : p < 1048576) (hp0 : -9223372036854775808 ≤ p)
    (H9 : Hid (∀ w, Calls Try.prog 9 #[geoV j i g p] w fun e w' => e = .returned (.tuple #[layoutV a1 a2 a3 a4 a5 a6 a7, .int .i64 1]) ∧ Below w.heap.size w w'))
    (H2 : Hid (∀ w, Calls Try.prog 9 #[geoV j i g (p + 1)] w fun e w' => e = .returned (.tuple #[layoutV d1 d2 d3 d4 d5 d6 d7, .int .i64 er]) ∧ Below w.heap.size w w')) :
    Calls Try.prog 8 #[geoV j i g p] w fun e w' => e = .returned (.bool true) ∧ Below w.heap.size w w' := by
  unfold geoV layoutV at *
  go_enter Try.func8, Try.ntmps8
  go_wp2_with fail
  refine (shown_any _).mono ?_
  rintro e w0 ⟨rfl, hb0⟩
  obtain ⟨c0, c1, c2, c3, hb0', hs0⟩ := kept_cells hb0
  have HB0 := Lib.hid hb0'
  clear hb0 hb0'
  go_wp2_with fail
  refine (H9.out _).mono ?_
  rintro e w1 ⟨rfl, hb1⟩
  have k0 := keepC hb1 c0
  have k1 := keepC hb1 c1
  have k2 := keepC hb1 c2
  have k3 := keepC hb1 c3
  have hs1 : w.heap.size < w1.heap.size := lt_of k0
  have HB1 := Lib.hid (HB0.out.trans (hb1.mono HB0.out.size))
  clear hb1 c0 c1 c2 c3
  go_wp2_with fail
  refine (H2.out _).mono ?_
  rintro e w2 ⟨rfl, hb2⟩
  obtain ⟨hk1, hk2, hb2', hs2⟩ := kept_two (xs := [.int .i64 a1, .int .i64 a2, .int .i64 a3, .int .i64 a4, .int .i64 a5, .int .i64 a6, .int .i64 a7]) (ys := [.int .i64 j, .int .i64 i, .int .i64 g, .int .i64 (p + 1)]) hb2
  have HK1 := Lib.hid hk1
  have HK2 := Lib.hid hk2
  have HB2 := Lib.hid (HB1.out.trans (hb2'.mono HB1.out.size))
  have g0 := keepC hb2' k0
  have g1 := keepC hb2' k1
  have g2 := keepC hb2' k2
  have g3 := keepC hb2' k3
  have u0 := hk2.cell 0
  have u1 := hk2.cell 1
  have u2 := hk2.cell 2
  have u3 := hk2.cell 3
  clear hb2 hb2' hk1 hk2 k0 k1 k2 k3
  have z1 : w1.heap.size < w2.heap.size := by omega
  have z2 : w1.heap.size + 1 < w2.heap.size := by omega
  have z3 : w.heap.size < w2.heap.size := by omega
  go_wp2_with fail
  go_ret
  refine ⟨rfl, ?_⟩
  repeat (first | with_reducible exact HB2.out | with_reducible refine below_drewN ?_ _ | with_reducible refine Below.setCell ?_ ?_ _ | with_reducible refine Below.alloc ?_ ?_ _)
  all_goals (first | exact HB2.out.size | (simp; omega))

set_option maxHeartbeats 1600000 in
set_option maxRecDepth 100000 in
theorem more_big (j i g p : Int) (a1 a2 a3 a4 a5 a6 a7 : Int) (w : World) (hp : 1048576 ≤ p)
    (H9 : Hid (∀ w, Calls Try.prog 9 #[geoV j i g p] w fun e w' => e = .returned (.tuple #[layoutV a1 a2 a3 a4 a5 a6 a7, .int .i64 1]) ∧ Below w.heap.size w w')) :
    Calls Try.prog 8 #[geoV j i g p] w fun e w' => e = .returned (.bool true) ∧ Below w.heap.size w w' := by
  have H2 := H9
  unfold geoV layoutV at *
  go_enter Try.func8, Try.ntmps8
  go_wp2_with fail
  refine (shown_any _).mono ?_
  rintro e w0 ⟨rfl, hb0⟩
  obtain ⟨c0, c1, c2, c3, hb0', hs0⟩ := kept_cells hb0
  have HB0 := Lib.hid hb0'
  clear hb0 hb0'
  go_wp2_with fail
  refine (H9.out _).mono ?_
  rintro e w1 ⟨rfl, hb1⟩
  have k0 := keepC hb1 c0
  have k1 := keepC hb1 c1
  have k2 := keepC hb1 c2
  have k3 := keepC hb1 c3
  have hs1 : w.heap.size < w1.heap.size := lt_of k0
  have HB1 := Lib.hid (HB0.out.trans (hb1.mono HB0.out.size))
  clear hb1 c0 c1 c2 c3
  go_wp2_with fail
  refine (H2.out _).mono ?_
  rintro e w2 ⟨rfl, hb2⟩
  obtain ⟨hk1, hk2, hb2', hs2⟩ := kept_two (xs := [.int .i64 a1, .int .i64 a2, .int .i64 a3, .int .i64 a4, .int .i64 a5, .int .i64 a6, .int .i64 a7]) (ys := [.int .i64 j, .int .i64 i, .int .i64 g, .int .i64 (p)]) hb2
  have HK1 := Lib.hid hk1
  have HK2 := Lib.hid hk2
  have HB2 := Lib.hid (HB1.out.trans (hb2'.mono HB1.out.size))
  have g0 := keepC hb2' k0
  have g1 := keepC hb2' k1
  have g2 := keepC hb2' k2
  have g3 := keepC hb2' k3
  have u0 := hk2.cell 0
  have u1 := hk2.cell 1
  have u2 := hk2.cell 2
  have u3 := hk2.cell 3
  clear hb2 hb2' hk1 hk2 k0 k1 k2 k3
  have z1 : w1.heap.size < w2.heap.size := by omega
  have z2 : w1.heap.size + 1 < w2.heap.size := by omega
  have z3 : w.heap.size < w2.heap.size := by omega
  go_wp2_with fail
  go_ret
  refine ⟨rfl, ?_⟩
  repeat (first | with_reducible exact HB2.out | with_reducible refine below_drewN ?_ _ | with_reducible refine Below.setCell ?_ ?_ _ | with_reducible refine Below.alloc ?_ ?_ _)
  all_goals (first | exact HB2.out.size | (simp; omega))

set_option maxHeartbeats 1600000 in
set_option maxRecDepth 100000 in
theorem more_edge (j i g p : Int) (a1 a2 a3 a4 a5 a6 a7 d1 d2 d3 d4 d5 d6 d7 : Int) (w : World) (hp : p < 1048576) (hp0 : -9223372036854775808 ≤ p)
    (H9 : Hid (∀ w, Calls Try.prog 9 #[geoV j i g p] w fun e w' => e = .returned (.tuple #[layoutV a1 a2 a3 a4 a5 a6 a7, .int .i64 0]) ∧ Below w.heap.size w w'))
    (H2 : Hid (∀ w, Calls Try.prog 9 #[geoV j i g (p + 1)] w fun e w' => e = .returned (.tuple #[layoutV d1 d2 d3 d4 d5 d6 d7, .int .i64 1]) ∧ Below w.heap.size w w'))
    (H14 : Hid (∀ w, Calls Try.prog 14 #[geoV j i g (p + 1)] w fun e w' => e = .returned (.bool false) ∧ Below w.heap.size w w')) :
    Calls Try.prog 8 #[geoV j i g p] w fun e w' => e = .returned (.bool true) ∧ Below w.heap.size w w' := by
  unfold geoV layoutV at *
  go_enter Try.func8, Try.ntmps8
  go_wp2_with fail
  refine (shown_any _).mono ?_
  rintro e w0 ⟨rfl, hb0⟩
  obtain ⟨c0, c1, c2, c3, hb0', hs0⟩ := kept_cells hb0
  have HB0 := Lib.hid hb0'
  clear hb0 hb0'
  go_wp2_with fail
  refine (H9.out _).mono ?_
  rintro e w1 ⟨rfl, hb1⟩
  have k0 := keepC hb1 c0
  have k1 := keepC hb1 c1
  have k2 := keepC hb1 c2
  have k3 := keepC hb1 c3
  have hs1 : w.heap.size < w1.heap.size := lt_of k0
  have HB1 := Lib.hid (HB0.out.trans (hb1.mono HB0.out.size))
  clear hb1 c0 c1 c2 c3
  go_wp2_with fail
  refine (H2.out _).mono ?_
  rintro e w2 ⟨rfl, hb2⟩
  obtain ⟨hk1, hk2, hb2', hs2⟩ := kept_two (xs := [.int .i64 a1, .int .i64 a2, .int .i64 a3, .int .i64 a4, .int .i64 a5, .int .i64 a6, .int .i64 a7]) (ys := [.int .i64 j, .int .i64 i, .int .i64 g, .int .i64 (p + 1)]) hb2
  have HK1 := Lib.hid hk1
  have HK2 := Lib.hid hk2
  have HB2 := Lib.hid (HB1.out.trans (hb2'.mono HB1.out.size))
  have g0 := keepC hb2' k0
  have g1 := keepC hb2' k1
  have g2 := keepC hb2' k2
  have g3 := keepC hb2' k3
  have u0 := hk2.cell 0
  have u1 := hk2.cell 1
  have u2 := hk2.cell 2
  have u3 := hk2.cell 3
  clear hb2 hb2' hk1 hk2 k0 k1 k2 k3
  have z1 : w1.heap.size < w2.heap.size := by omega
  have z2 : w1.heap.size + 1 < w2.heap.size := by omega
  have z3 : w.heap.size < w2.heap.size := by omega
  go_wp2_with (go_at_call 14; refine (H14.out _).mono ?_; rintro e w3 ⟨rfl, hb3⟩; have HB3 := Lib.hid ((HB2.out.alloc HB2.out.size _).trans (hb3.mono (by have := HB2.out.size; simp; omega))); clear hb3)
  go_ret
  exact ⟨rfl, HB3.out⟩

set_option maxHeartbeats 1600000 in
set_option maxRecDepth 100000 in
theorem more_ok (j i g p : Int) (a1 a2 a3 a4 a5 a6 a7 b7 m : Int) (w : World) (hp : p < 1048576) (hp0 : -9223372036854775808 ≤ p) (hsub : b7 - a7 = g) (hg1 : 1 ≤ g) (hg2 : g ≤ 64)
    (H9 : Hid (∀ w, Calls Try.prog 9 #[geoV j i g p] w fun e w' => e = .returned (.tuple #[layoutV a1 a2 a3 a4 a5 a6 a7, .int .i64 0]) ∧ Below w.heap.size w w'))
    (H2 : Hid (∀ w, Calls Try.prog 9 #[geoV j i g (p + 1)] w fun e w' => e = .returned (.tuple #[layoutV a1 a2 a3 a4 a5 a6 b7, .int .i64 0]) ∧ Below w.heap.size w w'))
    (H16 : Hid (∀ w, Calls Try.prog 16 #[geoV j i g p] w fun e w' => e = .returned (.int .i64 m) ∧ Below w.heap.size w w'))
    (H17 : Hid (∀ w, Calls Try.prog 16 #[geoV j i g (p + 1)] w fun e w' => e = .returned (.int .i64 m) ∧ Below w.heap.size w w')) :
    Calls Try.prog 8 #[geoV j i g p] w fun e w' => e = .returned (.bool true) ∧ Below w.heap.size w w' := by
  have ls := layout_same
  have lg := guard_at25
  have hwr : IntKind.i64.wrap (b7 - a7) = g := by rw [hsub]; exact IntWalk.i64_in _ (by omega)
  unfold geoV layoutV at *
  go_enter Try.func8, Try.ntmps8
  go_wp2_with fail
  refine (shown_any _).mono ?_
  rintro e w0 ⟨rfl, hb0⟩
  obtain ⟨c0, c1, c2, c3, hb0', hs0⟩ := kept_cells hb0
  have HB0 := Lib.hid hb0'
  clear hb0 hb0'
  go_wp2_with fail
  refine (H9.out _).mono ?_
  rintro e w1 ⟨rfl, hb1⟩
  have k0 := keepC hb1 c0
  have k1 := keepC hb1 c1
  have k2 := keepC hb1 c2
  have k3 := keepC hb1 c3
  have hs1 : w.heap.size < w1.heap.size := lt_of k0
  have HB1 := Lib.hid (HB0.out.trans (hb1.mono HB0.out.size))
  clear hb1 c0 c1 c2 c3
  go_wp2_with fail
  refine (H2.out _).mono ?_
  rintro e w2 ⟨rfl, hb2⟩
  obtain ⟨hk1, hk2, hb2', hs2⟩ := kept_two (xs := [.int .i64 a1, .int .i64 a2, .int .i64 a3, .int .i64 a4, .int .i64 a5, .int .i64 a6, .int .i64 a7]) (ys := [.int .i64 j, .int .i64 i, .int .i64 g, .int .i64 (p + 1)]) hb2
  have HK1 := Lib.hid hk1
  have HK2 := Lib.hid hk2
  have HB2 := Lib.hid (HB1.out.trans (hb2'.mono HB1.out.size))
  have g0 := keepC hb2' k0
  have g1 := keepC hb2' k1
  have g2 := keepC hb2' k2
  have g3 := keepC hb2' k3
  have u0 := hk2.cell 0
  have u1 := hk2.cell 1
  have u2 := hk2.cell 2
  have u3 := hk2.cell 3
  clear hb2 hb2' hk1 hk2 k0 k1 k2 k3
  have z1 : w1.heap.size < w2.heap.size := by omega
  have z2 : w1.heap.size + 1 < w2.heap.size := by omega
  have z3 : w.heap.size < w2.heap.size := by omega
  have l0 := HK1.out.cell 0
  have l1 := HK1.out.cell 1
  have l2 := HK1.out.cell 2
  have l3 := HK1.out.cell 3
  have l4 := HK1.out.cell 4
  have l5 := HK1.out.cell 5
  have l6 := HK1.out.cell 6
  go_wp2_with fail
  have HSz : Hid ((w2.alloc (.cells #[.int .i64 a1, .int .i64 a2, .int .i64 a3, .int .i64 a4, .int .i64 a5, .int .i64 a6, .int .i64 a7] 25)).cell? ⟨w.heap.size, 0, none⟩ = some (.int .i64 j) ∧ (w2.alloc (.cells #[.int .i64 a1, .int .i64 a2, .int .i64 a3, .int .i64 a4, .int .i64 a5, .int .i64 a6, .int .i64 a7] 25)).cell? ⟨w.heap.size, 1, none⟩ = some (.int .i64 i) ∧ (w2.alloc (.cells #[.int .i64 a1, .int .i64 a2, .int .i64 a3, .int .i64 a4, .int .i64 a5, .int .i64 a6, .int .i64 a7] 25)).cell? ⟨w.heap.size, 2, none⟩ = some (.int .i64 g) ∧ (w2.alloc (.cells #[.int .i64 a1, .int .i64 a2, .int .i64 a3, .int .i64 a4, .int .i64 a5, .int .i64 a6, .int .i64 a7] 25)).cell? ⟨w.heap.size, 3, none⟩ = some (.int .i64 p) ∧ (w2.alloc (.cells #[.int .i64 a1, .int .i64 a2, .int .i64 a3, .int .i64 a4, .int .i64 a5, .int .i64 a6, .int .i64 a7] 25)).cell? ⟨w1.heap.size, 0, none⟩ = some (.int .i64 a1) ∧ (w2.alloc (.cells #[.int .i64 a1, .int .i64 a2, .int .i64 a3, .int .i64 a4, .int .i64 a5, .int .i64 a6, .int .i64 a7] 25)).cell? ⟨w1.heap.size, 1, none⟩ = some (.int .i64 a2) ∧ (w2.alloc (.cells #[.int .i64 a1, .int .i64 a2, .int .i64 a3, .int .i64 a4, .int .i64 a5, .int .i64 a6, .int .i64 a7] 25)).cell? ⟨w1.heap.size, 2, none⟩ = some (.int .i64 a3) ∧ (w2.alloc (.cells #[.int .i64 a1, .int .i64 a2, .int .i64 a3, .int .i64 a4, .int .i64 a5, .int .i64 a6, .int .i64 a7] 25)).cell? ⟨w1.heap.size, 3, none⟩ = some (.int .i64 a4) ∧ (w2.alloc (.cells #[.int .i64 a1, .int .i64 a2, .int .i64 a3, .int .i64 a4, .int .i64 a5, .int .i64 a6, .int .i64 a7] 25)).cell? ⟨w1.heap.size, 4, none⟩ = some (.int .i64 a5) ∧ (w2.alloc (.cells #[.int .i64 a1, .int .i64 a2, .int .i64 a3, .int .i64 a4, .int .i64 a5, .int .i64 a6, .int .i64 a7] 25)).cell? ⟨w1.heap.size, 5, none⟩ = some (.int .i64 a6) ∧ (w2.alloc (.cells #[.int .i64 a1, .int .i64 a2, .int .i64 a3, .int .i64 a4, .int .i64 a5, .int .i64 a6, .int .i64 a7] 25)).cell? ⟨w1.heap.size, 6, none⟩ = some (.int .i64 a7) ∧ (w2.alloc (.cells #[.int .i64 a1, .int .i64 a2, .int .i64 a3, .int .i64 a4, .int .i64 a5, .int .i64 a6, .int .i64 a7] 25)).cell? ⟨w1.heap.size + 1, 0, none⟩ = some (.int .i64 j) ∧ (w2.alloc (.cells #[.int .i64 a1, .int .i64 a2, .int .i64 a3, .int .i64 a4, .int .i64 a5, .int .i64 a6, .int .i64 a7] 25)).cell? ⟨w1.heap.size + 1, 1, none⟩ = some (.int .i64 i) ∧ (w2.alloc (.cells #[.int .i64 a1, .int .i64 a2, .int .i64 a3, .int .i64 a4, .int .i64 a5, .int .i64 a6, .int .i64 a7] 25)).cell? ⟨w1.heap.size + 1, 2, none⟩ = some (.int .i64 g) ∧ (w2.alloc (.cells #[.int .i64 a1, .int .i64 a2, .int .i64 a3, .int .i64 a4, .int .i64 a5, .int .i64 a6, .int .i64 a7] 25)).cell? ⟨w1.heap.size + 1, 3, none⟩ = some (.int .i64 (p + 1)) ∧ (w2.alloc (.cells #[.int .i64 a1, .int .i64 a2, .int .i64 a3, .int .i64 a4, .int .i64 a5, .int .i64 a6, .int .i64 a7] 25)).cell? ⟨w2.heap.size, 0, none⟩ = some (.int .i64 a1) ∧ (w2.alloc (.cells #[.int .i64 a1, .int .i64 a2, .int .i64 a3, .int .i64 a4, .int .i64 a5, .int .i64 a6, .int .i64 a7] 25)).cell? ⟨w2.heap.size, 1, none⟩ = some (.int .i64 a2) ∧ (w2.alloc (.cells #[.int .i64 a1, .int .i64 a2, .int .i64 a3, .int .i64 a4, .int .i64 a5, .int .i64 a6, .int .i64 a7] 25)).cell? ⟨w2.heap.size, 2, none⟩ = some (.int .i64 a3) ∧ (w2.alloc (.cells #[.int .i64 a1, .int .i64 a2, .int .i64 a3, .int .i64 a4, .int .i64 a5, .int .i64 a6, .int .i64 a7] 25)).cell? ⟨w2.heap.size, 3, none⟩ = some (.int .i64 a4) ∧ (w2.alloc (.cells #[.int .i64 a1, .int .i64 a2, .int .i64 a3, .int .i64 a4, .int .i64 a5, .int .i64 a6, .int .i64 a7] 25)).cell? ⟨w2.heap.size, 4, none⟩ = some (.int .i64 a5) ∧ (w2.alloc (.cells #[.int .i64 a1, .int .i64 a2, .int .i64 a3, .int .i64 a4, .int .i64 a5, .int .i64 a6, .int .i64 a7] 25)).cell? ⟨w2.heap.size, 5, none⟩ = some (.int .i64 a6) ∧ (w2.alloc (.cells #[.int .i64 a1, .int .i64 a2, .int .i64 a3, .int .i64 a4, .int .i64 a5, .int .i64 a6, .int .i64 a7] 25)).cell? ⟨w2.heap.size, 6, none⟩ = some (.int .i64 a7) ∧ Below w.heap.size w (w2.alloc (.cells #[.int .i64 a1, .int .i64 a2, .int .i64 a3, .int .i64 a4, .int .i64 a5, .int .i64 a6, .int .i64 a7] 25))) := by
    have al : ∀ {a : Addr} {v : Value}, w2.cell? a = some v → (w2.alloc (.cells #[.int .i64 a1, .int .i64 a2, .int .i64 a3, .int .i64 a4, .int .i64 a5, .int .i64 a6, .int .i64 a7] 25)).cell? a = some v := fun h => Lib.cell?_alloc_marked _ h
    have new : Bk (w2.alloc (.cells #[.int .i64 a1, .int .i64 a2, .int .i64 a3, .int .i64 a4, .int .i64 a5, .int .i64 a6, .int .i64 a7] 25)) w2.heap.size 25 [.int .i64 a1, .int .i64 a2, .int .i64 a3, .int .i64 a4, .int .i64 a5, .int .i64 a6, .int .i64 a7] := Bk.new w2 25 _
    exact ⟨al g0, al g1, al g2, al g3, al l0, al l1, al l2, al l3, al l4, al l5, al l6, al u0, al u1, al u2, al u3, new.cell 0, new.cell 1, new.cell 2, new.cell 3, new.cell 4, new.cell 5, new.cell 6, HB2.out.alloc HB2.out.size _⟩
  obtain ⟨wz, hwz⟩ : ∃ wz, wz = w2.alloc (.cells #[.int .i64 a1, .int .i64 a2, .int .i64 a3, .int .i64 a4, .int .i64 a5, .int .i64 a6, .int .i64 a7] 25) := ⟨_, rfl⟩
  rw [← hwz] at HSz ⊢
  clear hwz g0 g1 g2 g3 u0 u1 u2 u3 l0 l1 l2 l3 l4 l5 l6 HK1 HK2 z1 z2 z3 hwr
  obtain ⟨b6, hb6⟩ : ∃ b, b = w1.heap.size + 1 := ⟨_, rfl⟩
  obtain ⟨b1, hb1⟩ : ∃ b, b = w1.heap.size := ⟨_, rfl⟩
  obtain ⟨b2, hb2⟩ : ∃ b, b = w2.heap.size := ⟨_, rfl⟩
  rw [← hb6, ← hb1, ← hb2] at HSz
  rw [← hb6, ← hb1, ← hb2]
  clear hb1 hb2 hb6 hs1 hs2
  go_region_held3 (fun u => u.cell? ⟨w.heap.size, 0, none⟩ = some (.int .i64 j) ∧ u.cell? ⟨w.heap.size, 1, none⟩ = some (.int .i64 i) ∧ u.cell? ⟨w.heap.size, 2, none⟩ = some (.int .i64 g) ∧ u.cell? ⟨w.heap.size, 3, none⟩ = some (.int .i64 p) ∧ u.cell? ⟨b1, 0, none⟩ = some (.int .i64 a1) ∧ u.cell? ⟨b1, 1, none⟩ = some (.int .i64 a2) ∧ u.cell? ⟨b1, 2, none⟩ = some (.int .i64 a3) ∧ u.cell? ⟨b1, 3, none⟩ = some (.int .i64 a4) ∧ u.cell? ⟨b1, 4, none⟩ = some (.int .i64 a5) ∧ u.cell? ⟨b1, 5, none⟩ = some (.int .i64 a6) ∧ u.cell? ⟨b1, 6, none⟩ = some (.int .i64 a7) ∧ u.cell? ⟨b6, 0, none⟩ = some (.int .i64 j) ∧ u.cell? ⟨b6, 1, none⟩ = some (.int .i64 i) ∧ u.cell? ⟨b6, 2, none⟩ = some (.int .i64 g) ∧ u.cell? ⟨b6, 3, none⟩ = some (.int .i64 (p + 1)) ∧ u.cell? ⟨b2, 0, none⟩ = some (.int .i64 a1) ∧ u.cell? ⟨b2, 1, none⟩ = some (.int .i64 a2) ∧ u.cell? ⟨b2, 2, none⟩ = some (.int .i64 a3) ∧ u.cell? ⟨b2, 3, none⟩ = some (.int .i64 a4) ∧ u.cell? ⟨b2, 4, none⟩ = some (.int .i64 a5) ∧ u.cell? ⟨b2, 5, none⟩ = some (.int .i64 a6) ∧ u.cell? ⟨b2, 6, none⟩ = some (.int .i64 a7) ∧ Below w.heap.size w u)
    (first | exact keepM hb (by assumption) | exact startM HSz.out)
    (first | (go_at_call 16; (with_reducible refine (H16.out _).mono ?_); rintro e w' ⟨rfl, hb⟩; have hB := (keepM hb (by assumption)).2.2.2.2.2.2.2.2.2.2.2.2.2.2.2.2.2.2.2.2.2.2) | (go_at_call 16; (with_reducible refine (H17.out _).mono ?_); rintro e w' ⟨rfl, hb⟩; have hB := (keepM hb (by assumption)).2.2.2.2.2.2.2.2.2.2.2.2.2.2.2.2.2.2.2.2.2.2))
  all_goals
    go_wp2
    go_ret
    exact ⟨rfl, hB⟩

theorem more_walk (j i g p : Int) (hp0 : -9223372036854775808 ≤ p) (w : World) : Calls Try.prog 8 #[geoV j i g p] w fun e w' => e = .returned (.bool true) ∧ Below w.heap.size w w' := by
  by_cases hp : p < 1048576
  · by_cases h : Valid j i g p
    · by_cases h2 : Valid j i g (p + 1)
      · have e : 1 + j + 1 + 1 + 1 + i / 2 + g * (p + 1) - (1 + j + 1 + 1 + 1 + i / 2 + g * p) = g := by
          rw [Int.mul_add]
          omega
        exact more_ok j i g p _ _ _ _ _ _ _ _ (3 + i / 2) w hp hp0 e h.g1 h.g2 (plan_yes h) (plan_yes h2) (meta_yes h) (meta_yes h2)
      · exact more_edge j i g p _ _ _ _ _ _ _ 0 0 0 0 0 0 0 w hp hp0 (plan_yes h) (plan_no h2) (Lib.hid fun w => (right_no h2 w).mono fun e w' k => ⟨k.1, k.2.below⟩)
    · by_cases h2 : Valid j i g (p + 1)
      · exact more_bad j i g p 0 0 0 0 0 0 0 _ _ _ _ _ _ _ 0 w hp hp0 (plan_no h) (plan_yes h2)
      · exact more_bad j i g p 0 0 0 0 0 0 0 0 0 0 0 0 0 0 1 w hp hp0 (plan_no h) (plan_no h2)
  · exact more_big j i g p 0 0 0 0 0 0 0 w (by omega) (plan_no fun h => by have := h.p2; omega)

theorem more_contract (H : Type) (enc : TypeId × Value → H) (W : World) (base : Nat) (args : Array Value) (ds gs : List (DataW H)) (before : List MemPlace)
    (hval : ∀ (j : Nat) t v, Try.f8.params[j]? = some t → args[j]? = some v → Value.okWide Try.prog W .any base t v)
    (hW : DataW.Whole enc Try.prog Try.f8.params.toList Rows.superMoreSpec.vars false W args.toList ds gs before) :
    Calls Try.prog 8 args W fun e W' => ∃ v, e = .returned v ∧ Rows.superMoreSpec.post enc Try.prog Try.f8 false true false false W args v W' := by
  have hW' := hW
  have hlt : ∀ x ∈ before, x.block < W.heap.size := fun x hx => hW.lt x hx
  obtain ⟨p, q, hA0, hV, rfl, _, _⟩ := hW
  have hA : DataW.TrodAll enc Try.prog W 0 (fun _ => true) true Try.f8.params.toList args.toList ds p := hA0
  rw [Try.params8] at hA hval
  obtain ⟨v0, vs0, d0, ds0, p0, q0, hargs, rfl, rfl, h0, r0⟩ := trodAll_cons hA
  obtain ⟨rfl, rfl, rfl⟩ := trodAll_nil r0
  obtain rfl : args = #[v0] := by cases args; simp_all
  obtain ⟨rfl, rfl⟩ := trodVars_none hV
  clear hA0
  obtain ⟨j0, i0, g0, p0, rfl, bj0, bi0, bg0, bp0⟩ := open_geo (hval 0 23 v0 rfl rfl) h0
  refine (more_walk j0 i0 g0 p0 bp0.1 W).mono fun e W' ⟨he, hb⟩ => ?_
  subst he
  exact ⟨_, rfl, law_post laid (by kernel_rfl) Try.underlying4 (by rw [Try.params8]; decide +kernel) rfl hW' ⟨rfl, rfl, rfl⟩ hb⟩

set_option maxRecDepth 100000 in
theorem more_lifted (os : Os) (started : os.Started) (H : Type) (enc : TypeId × Value → H) :
    ReturnsInHanded {} Try.checked os 8 .any (Rows.superMoreSpec.pre6 enc Try.prog Try.f8 Rows.superMoreRow.domain false) (Rows.superMoreSpec.post enc Try.prog Try.f8 false true false false) := by
  refine returnsInHanded_of_change (C := Try.checked) own started (by kernel_rfl) Try.func8
    (ChangeSpec.witness6 (enc := enc) (C := Try.checked) false ⟨#[], #[.agg #[.int .i64 0, .int .i64 0, .int .i64 0, .int .i64 0]], []⟩ 8 (by kernel_rfl) (by kernel_rfl) (by kernel_rfl) (by kernel_rfl)) ?_
  intro W base args ds gs before hval hW _ _
  exact more_contract H enc W base args ds gs before hval hW

/-- SuperMore is true for every input. -/
theorem more_holds : Rows.SuperMoreSaid :=
  OpenClaim.holds_of_wide 8 Try.f8 rfl rfl rfl rfl rfl rfl rfl ⟨rfl, rfl, rfl, rfl, rfl⟩ rfl rfl rfl rfl rfl (by kernel_rfl) Try.func8 (by kernel_rfl)
    (of_decide_eq_true (by kernel_rfl)) (by unfold Func.isWrapper; first | (rw [if_pos (by decide +kernel)]; kernel_rfl) | (rw [if_neg (by decide +kernel)]; exact ⟨rfl, rfl⟩))
    (fun os started H enc _ => more_lifted os started H enc)
end Go.Proofs.Ytcedpmakomhigaa
