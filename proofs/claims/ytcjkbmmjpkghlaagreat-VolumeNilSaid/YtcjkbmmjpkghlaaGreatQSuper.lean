/-
  The geometry of a disk on paper: which ones are valid, the superblock's bytes, and the numbers that stand in a sector.
-/
import Derived.Test.YtcjkbmmjpkghlaaGreatQF
import Derived.IntWalk
import Derived.Lib.SlBytesConst
import Derived.StillTailTactics
import Derived.Deep.RegionHeld3
namespace Go.Proofs.YtcjkbmmjpkghlaaGreat.Super
open Go.Proofs.YtcjkbmmjpkghlaaGreat
open Go.RowKit

/-- A geometry: the journal, the inodes, the groups, the blocks of a group. -/
def geoV (j i g p : Int) : Value := .agg #[.int .i64 j, .int .i64 i, .int .i64 g, .int .i64 p]
/-- A layout. -/
def layoutV (j l g b i k a : Int) : Value := .agg #[.int .i64 j, .int .i64 l, .int .i64 g, .int .i64 b, .int .i64 i, .int .i64 k, .int .i64 a]

/-- A valid geometry. -/
structure Valid (j i g p : Int) : Prop where
  j1 : 3 ≤ j
  j2 : j ≤ 1000
  i1 : 2 ≤ i
  i2 : i ≤ 64
  i3 : i % 2 = 0
  g1 : 1 ≤ g
  g2 : g ≤ 64
  p1 : 1 ≤ p
  gp : g * p ≤ 512
theorem Valid.p2 {j i g p : Int} (h : Valid j i g p) : p ≤ 512 := by
  have h1 := h.g1
  have h2 := h.p1
  have h3 := h.gp
  have : 1 * p ≤ g * p := Int.mul_le_mul_of_nonneg_right h1 (by omega)
  omega
theorem Valid.q {j i g p : Int} (h : Valid j i g p) : p ≤ 512 / g :=
  Int.le_ediv_of_mul_le (by have := h.g1; omega) (by rw [Int.mul_comm]; exact h.gp)
theorem Valid.of_q {j i g p : Int} (j1 : 3 ≤ j) (j2 : j ≤ 1000) (i1 : 2 ≤ i) (i2 : i ≤ 64) (i3 : i % 2 = 0) (g1 : 1 ≤ g) (g2 : g ≤ 64) (p1 : 1 ≤ p) (q : p ≤ 512 / g) : Valid j i g p :=
  ⟨j1, j2, i1, i2, i3, g1, g2, p1, by
    have := Int.mul_le_of_le_ediv (by omega) q
    rw [Int.mul_comm]; exact this⟩
theorem Valid.gp1 {j i g p : Int} (h : Valid j i g p) : 1 ≤ g * p := by
  have h1 := h.g1
  have h2 := h.p1
  have : 1 * p ≤ g * p := Int.mul_le_mul_of_nonneg_right h1 (by omega)
  omega
end Go.Proofs.YtcjkbmmjpkghlaaGreat.Super

/-
  Whether a geometry is valid: what the program's and the document's own answers are.
-/
namespace Go.Proofs.YtcjkbmmjpkghlaaGreat.Super
open Go.Proofs.YtcjkbmmjpkghlaaGreat
open Go.RowKit

/-- What a call leaves that boxes its geometry, reads, and makes nothing else. -/
def Boxed (w : World) (j i g p : Int) (w' : World) : Prop := ∃ n, w' = (w.alloc (.cells #[.int .i64 j, .int .i64 i, .int .i64 g, .int .i64 p] 29)).drewN n
theorem made_box (w : World) (xs : Array Value) (t : TypeId) (n : Nat) : Below w.heap.size w ((w.alloc (.cells xs t)).drewN n) := below_drewN ((Below.refl _ w).alloc (Nat.le_refl _) _) n
theorem Boxed.below {w w' : World} {j i g p : Int} (h : Boxed w j i g p w') : Below w.heap.size w w' := by
  obtain ⟨n, rfl⟩ := h
  exact made_box _ _ _ _

set_option maxRecDepth 100000 in
theorem right_yes {j i g p : Int} (h : Valid j i g p) (w : World) : Calls Tryz.prog 98 #[geoV j i g p] w fun e w' => e = .returned (.bool true) ∧ Boxed w j i g p w' := by
  have q := h.q
  have q' : decide (p ≤ 512 / g) = true := decide_eq_true q
  obtain ⟨j1, j2, i1, i2, i3, g1, g2, p1, gp⟩ := h
  unfold geoV
  go_enter Tryz.func98, Tryz.ntmps98
  go_wp2
  go_quiet (fail)
  go_wp2
  go_ret
  exact ⟨rfl, _, rfl⟩
set_option maxHeartbeats 3200000 in
set_option maxRecDepth 100000 in
theorem right_no {j i g p : Int} (h : ¬ Valid j i g p) (w : World) : Calls Tryz.prog 98 #[geoV j i g p] w fun e w' => e = .returned (.bool false) ∧ Boxed w j i g p w' := by
  by_cases j1 : 3 ≤ j
  rotate_left
  · clear h
    have q' : decide (3 ≤ j) = false := decide_eq_false j1
    unfold geoV
    go_enter Tryz.func98, Tryz.ntmps98
    go_wp2
    go_quiet (fail)
    go_wp2
    go_ret
    exact ⟨rfl, _, rfl⟩
  by_cases j2 : j ≤ 1000
  rotate_left
  · clear h
    have q' : decide (j ≤ 1000) = false := decide_eq_false j2
    unfold geoV
    go_enter Tryz.func98, Tryz.ntmps98
    go_wp2
    go_quiet (fail)
    go_wp2
    go_ret
    exact ⟨rfl, _, rfl⟩
  by_cases i1 : 2 ≤ i
  rotate_left
  · clear h
    have q' : decide (2 ≤ i) = false := decide_eq_false i1
    unfold geoV
    go_enter Tryz.func98, Tryz.ntmps98
    go_wp2
    go_quiet (fail)
    go_wp2
    go_ret
    exact ⟨rfl, _, rfl⟩
  by_cases i2 : i ≤ 64
  rotate_left
  · clear h
    have q' : decide (i ≤ 64) = false := decide_eq_false i2
    unfold geoV
    go_enter Tryz.func98, Tryz.ntmps98
    go_wp2
    go_quiet (fail)
    go_wp2
    go_ret
    exact ⟨rfl, _, rfl⟩
  by_cases i3 : i % 2 = 0
  rotate_left
  · clear h
    have i4 : i % 2 = 1 := by omega
    unfold geoV
    go_enter Tryz.func98, Tryz.ntmps98
    go_wp2
    go_quiet (fail)
    go_wp2
    go_ret
    exact ⟨rfl, _, rfl⟩
  by_cases g1 : 1 ≤ g
  rotate_left
  · clear h
    have q' : decide (1 ≤ g) = false := decide_eq_false g1
    unfold geoV
    go_enter Tryz.func98, Tryz.ntmps98
    go_wp2
    go_quiet (fail)
    go_wp2
    go_ret
    exact ⟨rfl, _, rfl⟩
  by_cases g2 : g ≤ 64
  rotate_left
  · clear h
    have q' : decide (g ≤ 64) = false := decide_eq_false g2
    unfold geoV
    go_enter Tryz.func98, Tryz.ntmps98
    go_wp2
    go_quiet (fail)
    go_wp2
    go_ret
    exact ⟨rfl, _, rfl⟩
  by_cases p1 : 1 ≤ p
  rotate_left
  · clear h
    have q' : decide (1 ≤ p) = false := decide_eq_false p1
    unfold geoV
    go_enter Tryz.func98, Tryz.ntmps98
    go_wp2
    go_quiet (fail)
    go_wp2
    go_ret
    exact ⟨rfl, _, rfl⟩
  by_cases q : p ≤ 512 / g
  rotate_left
  · clear h
    have q' : decide (p ≤ 512 / g) = false := decide_eq_false q
    unfold geoV
    go_enter Tryz.func98, Tryz.ntmps98
    go_wp2
    go_quiet (fail)
    go_wp2
    go_ret
    exact ⟨rfl, _, rfl⟩
  exact (h (Valid.of_q j1 j2 i1 i2 i3 g1 g2 p1 q)).elim

set_option maxRecDepth 100000 in
theorem rright_yes {j i g p : Int} (h : Valid j i g p) (w : World) : Calls Tryz.prog 100 #[geoV j i g p] w fun e w' => e = .returned (.bool true) ∧ Boxed w j i g p w' := by
  have p2 := h.p2
  have gp1 := h.gp1
  obtain ⟨j1, j2, i1, i2, i3, g1, g2, p1, gp⟩ := h
  have q' : decide (g * p ≤ 512) = true := decide_eq_true gp
  unfold geoV
  go_enter Tryz.func100, Tryz.ntmps100
  go_wp2
  go_ret
  exact ⟨rfl, 0, rfl⟩
set_option maxHeartbeats 3200000 in
set_option maxRecDepth 100000 in
theorem rright_no {j i g p : Int} (h : ¬ Valid j i g p) (w : World) : Calls Tryz.prog 100 #[geoV j i g p] w fun e w' => e = .returned (.bool false) ∧ Boxed w j i g p w' := by
  by_cases j1 : 3 ≤ j
  rotate_left
  · clear h
    have q' : decide (3 ≤ j) = false := decide_eq_false j1
    have r' : decide (j < 3) = true := decide_eq_true (by omega)
    unfold geoV
    go_enter Tryz.func100, Tryz.ntmps100
    go_wp2
    go_ret
    exact ⟨rfl, 0, rfl⟩
  by_cases j2 : j ≤ 1000
  rotate_left
  · clear h
    have q' : decide (j ≤ 1000) = false := decide_eq_false j2
    have r' : decide (1000 < j) = true := decide_eq_true (by omega)
    unfold geoV
    go_enter Tryz.func100, Tryz.ntmps100
    go_wp2
    go_ret
    exact ⟨rfl, 0, rfl⟩
  by_cases i1 : 2 ≤ i
  rotate_left
  · clear h
    have q' : decide (2 ≤ i) = false := decide_eq_false i1
    have r' : decide (i < 2) = true := decide_eq_true (by omega)
    unfold geoV
    go_enter Tryz.func100, Tryz.ntmps100
    go_wp2
    go_ret
    exact ⟨rfl, 0, rfl⟩
  by_cases i2 : i ≤ 64
  rotate_left
  · clear h
    have q' : decide (i ≤ 64) = false := decide_eq_false i2
    have r' : decide (64 < i) = true := decide_eq_true (by omega)
    unfold geoV
    go_enter Tryz.func100, Tryz.ntmps100
    go_wp2
    go_ret
    exact ⟨rfl, 0, rfl⟩
  by_cases i3 : i % 2 = 0
  rotate_left
  · clear h
    have i4 : i % 2 = 1 := by omega
    unfold geoV
    go_enter Tryz.func100, Tryz.ntmps100
    go_wp2
    go_ret
    exact ⟨rfl, 0, rfl⟩
  by_cases g1 : 1 ≤ g
  rotate_left
  · clear h
    have q' : decide (1 ≤ g) = false := decide_eq_false g1
    have r' : decide (g < 1) = true := decide_eq_true (by omega)
    unfold geoV
    go_enter Tryz.func100, Tryz.ntmps100
    go_wp2
    go_ret
    exact ⟨rfl, 0, rfl⟩
  by_cases g2 : g ≤ 64
  rotate_left
  · clear h
    have q' : decide (g ≤ 64) = false := decide_eq_false g2
    have r' : decide (64 < g) = true := decide_eq_true (by omega)
    unfold geoV
    go_enter Tryz.func100, Tryz.ntmps100
    go_wp2
    go_ret
    exact ⟨rfl, 0, rfl⟩
  by_cases p1 : 1 ≤ p
  rotate_left
  · clear h
    have q' : decide (1 ≤ p) = false := decide_eq_false p1
    have r' : decide (p < 1) = true := decide_eq_true (by omega)
    unfold geoV
    go_enter Tryz.func100, Tryz.ntmps100
    go_wp2
    go_ret
    exact ⟨rfl, 0, rfl⟩
  by_cases p2 : p ≤ 512
  rotate_left
  · clear h
    have q' : decide (p ≤ 512) = false := decide_eq_false p2
    have r' : decide (512 < p) = true := decide_eq_true (by omega)
    unfold geoV
    go_enter Tryz.func100, Tryz.ntmps100
    go_wp2
    go_ret
    exact ⟨rfl, 0, rfl⟩
  by_cases q : g * p ≤ 512
  rotate_left
  · clear h
    have q' : decide (g * p ≤ 512) = false := decide_eq_false q
    have r' : decide (512 < g * p) = true := decide_eq_true (by omega)
    have gp1 : g * p ≤ 64 * 512 := Int.mul_le_mul g2 p2 (by omega) (by omega)
    have gp0 : 0 ≤ g * p := Int.mul_nonneg (by omega) (by omega)
    unfold geoV
    go_enter Tryz.func100, Tryz.ntmps100
    go_wp2
    go_ret
    exact ⟨rfl, 0, rfl⟩
  exact (h ⟨j1, j2, i1, i2, i3, g1, g2, p1, q⟩).elim
end Go.Proofs.YtcjkbmmjpkghlaaGreat.Super

/-
  The blocks of a geometry, its layout, how many sectors tell what is known, and a block's group: what the program's and the document's own answers are.
-/
namespace Go.Proofs.YtcjkbmmjpkghlaaGreat.Super
open Go.Proofs.YtcjkbmmjpkghlaaGreat
open Go.RowKit

set_option maxHeartbeats 1600000 in
set_option maxRecDepth 100000 in
theorem blocks_any {j i g p : Int} (h : Valid j i g p) (w : World) : Calls Tryz.prog 99 #[geoV j i g p] w fun e w' => e = .returned (.int .i64 (g * p)) ∧ Boxed w j i g p w' := by
  have h1 := h.gp
  have h2 := h.gp1
  clear h
  unfold geoV
  go_enter Tryz.func99, Tryz.ntmps99
  go_wp2
  go_ret
  exact ⟨rfl, 0, rfl⟩

/-- The layout of a geometry. -/
def planV (j i g p : Int) : Value := layoutV 1 (1 + j) (1 + j + 1) (1 + j + 1 + 1) (1 + j + 1 + 1 + 1) (1 + j + 1 + 1 + 1 + i / 2) (1 + j + 1 + 1 + 1 + i / 2 + g * p)
def noneV : Value := layoutV 0 0 0 0 0 0 0

set_option maxHeartbeats 1600000 in
set_option maxRecDepth 100000 in
theorem plan_yes {j i g p : Int} (h : Valid j i g p) (w : World) : Calls Tryz.prog 46 #[geoV j i g p] w fun e w' => e = .returned (.tuple #[planV j i g p, .int .i64 0]) ∧ Below w.heap.size w w' := by
  have H := Lib.hid h
  have h1 := h.gp
  have h2 := h.gp1
  obtain ⟨j1, j2, i1, i2, i3, g1, g2, p1, gp⟩ := h
  have hw : IntKind.i64.wrap (1 + j + 1 + 1 + 1 + i / 2 + g * p) = 1 + j + 1 + 1 + 1 + i / 2 + g * p := IntWalk.i64_in _ (by omega)
  unfold geoV
  go_enter Tryz.func46, Tryz.ntmps46
  go_wp2_with (go_at_call 98; refine (right_yes H.out _).mono ?_; rintro e w' ⟨rfl, n, rfl⟩)
  go_region_with ((go_at_call 99; refine (blocks_any H.out _).mono ?_; rintro e w' ⟨rfl, n2, rfl⟩))
  all_goals
    go_wp2
    refine bodyPost_ret (v := .tuple #[planV j i g p, .int .i64 0]) (by simp [results, Tryz.results46, go_sem, planV, layoutV]) rfl ⟨rfl, ?_⟩
    repeat (first | with_reducible exact Below.refl _ _ | with_reducible refine below_drewN ?_ _ | with_reducible refine Below.setCell ?_ ?_ _ | with_reducible refine Below.alloc ?_ ?_ _)
    all_goals (simp <;> omega)
set_option maxHeartbeats 1600000 in
set_option maxRecDepth 100000 in
theorem plan_no {j i g p : Int} (h : ¬ Valid j i g p) (w : World) : Calls Tryz.prog 46 #[geoV j i g p] w fun e w' => e = .returned (.tuple #[noneV, .int .i64 1]) ∧ Below w.heap.size w w' := by
  have H := Lib.hid h
  clear h
  unfold geoV
  go_enter Tryz.func46, Tryz.ntmps46
  go_wp2_with (go_at_call 98; refine (right_no H.out _).mono ?_; rintro e w' ⟨rfl, n, rfl⟩)
  refine bodyPost_ret (v := .tuple #[noneV, .int .i64 1]) (by simp [results, Tryz.results46, go_sem, noneV, layoutV]) rfl ⟨rfl, ?_⟩
  repeat (first | with_reducible exact Below.refl _ _ | with_reducible refine below_drewN ?_ _ | with_reducible refine Below.setCell ?_ ?_ _ | with_reducible refine Below.alloc ?_ ?_ _)
  all_goals (simp <;> omega)

end Go.Proofs.YtcjkbmmjpkghlaaGreat.Super

/-
  How many sectors tell what is known, and a block's group: what the program's and the document's own answers are.
-/
namespace Go.Proofs.YtcjkbmmjpkghlaaGreat.Super
open Go.Proofs.YtcjkbmmjpkghlaaGreat
open Go.RowKit

set_option maxHeartbeats 1600000 in
set_option maxRecDepth 100000 in
theorem meta_yes {j i g p : Int} (h : Valid j i g p) (w : World) : Calls Tryz.prog 53 #[geoV j i g p] w fun e w' => e = .returned (.int .i64 (3 + i / 2)) ∧ Below w.heap.size w w' := by
  have H := Lib.hid h
  have h1 := h.gp
  have h2 := h.gp1
  obtain ⟨j1, j2, i1, i2, i3, g1, g2, p1, gp⟩ := h
  have hw : IntKind.i64.wrap (1 + j + 1 + 1 + 1 + i / 2 - (1 + j)) = 3 + i / 2 := by rw [IntWalk.i64_in _ (by omega)]; omega
  have hw2 : 1 + j + 1 + 1 + 1 + i / 2 - (1 + j) = 3 + i / 2 := by omega
  have hpl : planV j i g p = .agg #[.int .i64 1, .int .i64 (1 + j), .int .i64 (1 + j + 1), .int .i64 (1 + j + 1 + 1), .int .i64 (1 + j + 1 + 1 + 1), .int .i64 (1 + j + 1 + 1 + 1 + i / 2), .int .i64 (1 + j + 1 + 1 + 1 + i / 2 + g * p)] := rfl
  unfold geoV
  go_enter Tryz.func53, Tryz.ntmps53
  go_wp2_with (go_at_call 46; refine (plan_yes H.out _).mono ?_; rintro e w1 ⟨rfl, hb⟩)
  have hB1 : Below w.heap.size w w1 := ((Below.refl _ w).alloc (Nat.le_refl _) _).trans (hb.mono (by simp))
  have hs1 := hB1.size
  go_ret
  refine ⟨rfl, ?_⟩
  repeat (first | with_reducible exact hB1 | with_reducible exact Below.refl _ _ | with_reducible refine below_drewN ?_ _ | with_reducible refine Below.setCell ?_ ?_ _ | with_reducible refine Below.alloc ?_ ?_ _)
  all_goals (first | assumption | (simp <;> omega))
set_option maxHeartbeats 1600000 in
set_option maxRecDepth 100000 in
theorem meta_no {j i g p : Int} (h : ¬ Valid j i g p) (w : World) : Calls Tryz.prog 53 #[geoV j i g p] w fun e w' => e = .returned (.int .i64 0) ∧ Below w.heap.size w w' := by
  have H := Lib.hid h
  clear h
  have hpl : noneV = .agg #[.int .i64 0, .int .i64 0, .int .i64 0, .int .i64 0, .int .i64 0, .int .i64 0, .int .i64 0] := rfl
  unfold geoV
  go_enter Tryz.func53, Tryz.ntmps53
  go_wp2_with (go_at_call 46; refine (plan_no H.out _).mono ?_; rintro e w1 ⟨rfl, hb⟩)
  have hB1 : Below w.heap.size w w1 := ((Below.refl _ w).alloc (Nat.le_refl _) _).trans (hb.mono (by simp))
  have hs1 := hB1.size
  go_ret
  refine ⟨rfl, ?_⟩
  repeat (first | with_reducible exact hB1 | with_reducible exact Below.refl _ _ | with_reducible refine below_drewN ?_ _ | with_reducible refine Below.setCell ?_ ?_ _ | with_reducible refine Below.alloc ?_ ?_ _)
  all_goals (first | assumption | (simp <;> omega))
set_option maxRecDepth 100000 in
theorem rmeta_yes {j i g p : Int} (h : Valid j i g p) (w : World) : Calls Tryz.prog 51 #[geoV j i g p] w fun e w' => e = .returned (.int .i64 (3 + i / 2)) ∧ Below w.heap.size w w' := by
  have H := Lib.hid h
  obtain ⟨j1, j2, i1, i2, i3, g1, g2, p1, gp⟩ := h
  unfold geoV
  go_enter Tryz.func51, Tryz.ntmps51
  go_wp2_with (go_at_call 100; refine (rright_yes H.out _).mono ?_; rintro e w1 ⟨rfl, n, rfl⟩)
  go_ret
  refine ⟨rfl, ?_⟩
  repeat (first | with_reducible exact Below.refl _ _ | with_reducible refine below_drewN ?_ _ | with_reducible refine Below.setCell ?_ ?_ _ | with_reducible refine Below.alloc ?_ ?_ _)
  all_goals (simp <;> omega)
set_option maxRecDepth 100000 in
theorem rmeta_no {j i g p : Int} (h : ¬ Valid j i g p) (w : World) : Calls Tryz.prog 51 #[geoV j i g p] w fun e w' => e = .returned (.int .i64 0) ∧ Below w.heap.size w w' := by
  have H := Lib.hid h
  clear h
  unfold geoV
  go_enter Tryz.func51, Tryz.ntmps51
  go_wp2_with (go_at_call 100; refine (rright_no H.out _).mono ?_; rintro e w1 ⟨rfl, n, rfl⟩)
  go_ret
  refine ⟨rfl, ?_⟩
  repeat (first | with_reducible exact Below.refl _ _ | with_reducible refine below_drewN ?_ _ | with_reducible refine Below.setCell ?_ ?_ _ | with_reducible refine Below.alloc ?_ ?_ _)
  all_goals (simp <;> omega)

/-- Is there such a block? -/
def InB (g p x : Int) : Prop := 0 ≤ x ∧ x < g * p
set_option maxRecDepth 100000 in
theorem group_none {j i g p : Int} (x : Int) (h : ¬ Valid j i g p) (w : World) : Calls Tryz.prog 76 #[geoV j i g p, .int .i64 x] w fun e w' => e = .returned (.tuple #[.int .i64 0, .bool false]) ∧ Below w.heap.size w w' := by
  have H := Lib.hid h
  clear h
  unfold geoV
  go_enter Tryz.func76, Tryz.ntmps76
  go_wp2_with (go_at_call 98; refine (right_no H.out _).mono ?_; rintro e w' ⟨rfl, n, rfl⟩)
  go_ret2
  refine ⟨rfl, ?_⟩
  repeat (first | with_reducible exact Below.refl _ _ | with_reducible refine below_drewN ?_ _ | with_reducible refine Below.setCell ?_ ?_ _ | with_reducible refine Below.alloc ?_ ?_ _)
  all_goals (simp <;> omega)
set_option maxRecDepth 100000 in
theorem group_no {j i g p : Int} (x : Int) (h : Valid j i g p) (hx : ¬ InB g p x) (w : World) : Calls Tryz.prog 76 #[geoV j i g p, .int .i64 x] w fun e w' => e = .returned (.tuple #[.int .i64 0, .bool false]) ∧ Below w.heap.size w w' := by
  have H := Lib.hid h
  by_cases h0 : x < 0
  · clear hx
    unfold geoV
    go_enter Tryz.func76, Tryz.ntmps76
    go_wp2_with (go_at_call 98; refine (right_yes H.out _).mono ?_; rintro e w' ⟨rfl, n, rfl⟩)
    go_ret2
    refine ⟨rfl, ?_⟩
    repeat (first | with_reducible exact Below.refl _ _ | with_reducible refine below_drewN ?_ _ | with_reducible refine Below.setCell ?_ ?_ _ | with_reducible refine Below.alloc ?_ ?_ _)
    all_goals (simp <;> omega)
  · have h1 : g * p ≤ x := by unfold InB at hx; omega
    have h1' : decide (g * p ≤ x) = true := decide_eq_true h1
    clear hx
    unfold geoV
    go_enter Tryz.func76, Tryz.ntmps76
    go_wp2_with (first
      | (go_at_call 98; refine (right_yes H.out _).mono ?_; rintro e w' ⟨rfl, n, rfl⟩)
      | (go_at_call 99; refine (blocks_any H.out _).mono ?_; rintro e w' ⟨rfl, n2, rfl⟩))
    go_ret2
    refine ⟨rfl, ?_⟩
    repeat (first | with_reducible exact Below.refl _ _ | with_reducible refine below_drewN ?_ _ | with_reducible refine Below.setCell ?_ ?_ _ | with_reducible refine Below.alloc ?_ ?_ _)
    all_goals (simp <;> omega)
set_option maxRecDepth 100000 in
theorem group_yes {j i g p : Int} (x : Int) (h : Valid j i g p) (hx : InB g p x) (w : World) : Calls Tryz.prog 76 #[geoV j i g p, .int .i64 x] w fun e w' => e = .returned (.tuple #[.int .i64 (x / p), .bool true]) ∧ Below w.heap.size w w' := by
  have H := Lib.hid h
  obtain ⟨h0, h1⟩ := hx
  have h2 : ¬ g * p ≤ x := by omega
  have h2' : decide (g * p ≤ x) = false := decide_eq_false h2
  have p1 := h.p1
  have gp := h.gp
  clear h
  unfold geoV
  go_enter Tryz.func76, Tryz.ntmps76
  go_wp2_with (first
    | (go_at_call 98; refine (right_yes H.out _).mono ?_; rintro e w' ⟨rfl, n, rfl⟩)
    | (go_at_call 99; refine (blocks_any H.out _).mono ?_; rintro e w' ⟨rfl, n2, rfl⟩))
  go_ret2
  refine ⟨rfl, ?_⟩
  repeat (first | with_reducible exact Below.refl _ _ | with_reducible refine below_drewN ?_ _ | with_reducible refine Below.setCell ?_ ?_ _ | with_reducible refine Below.alloc ?_ ?_ _)
  all_goals (simp <;> omega)

end Go.Proofs.YtcjkbmmjpkghlaaGreat.Super

/-
  The superblock of a geometry: what the program's and the document's own answers are.
-/
namespace Go.Proofs.YtcjkbmmjpkghlaaGreat.Super
open Go.Proofs.YtcjkbmmjpkghlaaGreat
open Go.RowKit

/-- The mark, as its bytes lie in memory. -/
def markL : List UInt8 := [109, 111, 97, 116]
/-- The superblock's head: the mark, and the four numbers. -/
def headL (J I G P : Nat) : List UInt8 := markL ++ layl 2 [J, I, G, P]
/-- The superblock. -/
def superL (J I G P : Nat) : List UInt8 := sealed (padl (headL J I G P) 60)
theorem length_headL (J I G P : Nat) : (headL J I G P).length = 12 := by simp [headL, markL, length_layl]
theorem length_super (J I G P : Nat) : (superL J I G P).length = 64 := by
  unfold superL
  rw [length_sealed, length_padl _ _ (by rw [length_headL]; omega)]

/-- A geometry as it lies, once it was looked at. -/
theorem boxed_cells {w w1 : World} {j i g p : Int} (h : Boxed (w.alloc (.cells #[.int .i64 j, .int .i64 i, .int .i64 g, .int .i64 p] 29)) j i g p w1) :
    w1.cell? ⟨w.heap.size, 0, none⟩ = some (.int .i64 j) ∧ w1.cell? ⟨w.heap.size, 1, none⟩ = some (.int .i64 i) ∧ w1.cell? ⟨w.heap.size, 2, none⟩ = some (.int .i64 g) ∧ w1.cell? ⟨w.heap.size, 3, none⟩ = some (.int .i64 p) ∧ Below w.heap.size w w1 ∧ w.heap.size < w1.heap.size := by
  have hb := h.below
  have hk : Bk (w.alloc (.cells #[.int .i64 j, .int .i64 i, .int .i64 g, .int .i64 p] 29)) w.heap.size 29 [.int .i64 j, .int .i64 i, .int .i64 g, .int .i64 p] := Bk.new w 29 _
  have hk1 := hk.below hb (by simp)
  exact ⟨hk1.cell 0, hk1.cell 1, hk1.cell 2, hk1.cell 3, ((Below.refl _ w).alloc (Nat.le_refl _) _).trans (hb.mono (by simp)), by have := hb.size; simp at this; omega⟩

/-- '[]byte("moat")': a new row. -/
theorem mark_made (w : World) : ∃ wm, (convert 37 37 (.slice (some ⟨w.heap.size, 0, none⟩) 4 4)).run Tryz.prog (w.alloc (.cells #[.int .u8 109, .int .u8 111, .int .u8 97, .int .u8 116] 5)) = .ok (.slice (some ⟨w.heap.size, 0, none⟩) 4 4) wm ∧
    Rd wm wm.heap.size (some ⟨w.heap.size, 0, none⟩) (bytesV markL) ∧ Below w.heap.size w wm ∧ w.heap.size < wm.heap.size := by
  refine ⟨_, Lib.run_convert_bytes_const (P := Tryz.prog) w 37 5 _ 4 4 Tryz.underlying37 Tryz.underlying5, .inr ⟨w.heap.size, 0, rfl, by simp, fun j u hu => ?_⟩, (Below.refl _ w).alloc (Nat.le_refl _) _, by simp⟩
  have h := heap_alloc_new w (.cells #[.int .u8 109, .int .u8 111, .int .u8 97, .int .u8 116] 5 (4, 5))
  refine (cell_of_row _ _ _ _ _ _ h).trans ?_
  rw [Nat.zero_add, ← Array.getElem?_toList]
  exact hu

set_option maxHeartbeats 1600000 in
set_option maxRecDepth 100000 in
theorem slay_yes {J I G P : Nat} (h : Valid J I G P) (w : World) : Calls Tryz.prog 94 #[geoV J I G P] w fun e w' => ∃ v, e = .returned (.tuple #[v, .int .i64 0]) ∧ Made w (superL J I G P) v w' := by
  have H := Lib.hid h
  have p2 := h.p2
  obtain ⟨j1, j2, i1, i2, i3, g1, g2, p1, gp⟩ := h
  have Hf : Hid (∀ x ∈ [J, I, G, P], fitB x 2 = true) := by
    intro x hx
    simp only [List.mem_cons, List.not_mem_nil, or_false] at hx
    simp only [fitB, decide_eq_true_eq]
    rcases hx with rfl | rfl | rfl | rfl <;> omega
  unfold geoV
  go_enter Tryz.func94, Tryz.ntmps94
  go_wp2_with (go_at_call 98; refine (right_yes H.out _).mono ?_; rintro e w1 ⟨rfl, hbx⟩; obtain ⟨k0, k1, k2, k3, hb0, hs0⟩ := boxed_cells hbx; have HB0 := Lib.hid hb0; clear hbx hb0)
  have hrd : Rd (w1.alloc (.cells #[.int .u64 (J : Int), .int .u64 (I : Int), .int .u64 (G : Int), .int .u64 (P : Int)] 41)) (w1.alloc (.cells #[.int .u64 (J : Int), .int .u64 (I : Int), .int .u64 (G : Int), .int .u64 (P : Int)] 41)).heap.size (some ⟨w1.heap.size, 0, none⟩) (numsV [J, I, G, P]) := (Bk.new w1 41 (numsV [J, I, G, P])).rd 4 0
  refine (lay_ok [J, I, G, P] _ 4 4 2 _ rfl hrd (by omega) (by omega) ?_ Hf.out (by omega)).mono ?_
  · intro x hx
    simp only [List.mem_cons, List.not_mem_nil, or_false] at hx
    rcases hx with rfl | rfl | rfl | rfl <;> omega
  rintro e w2 ⟨v, rfl, hown, hb2⟩
  have hb1 : Below w.heap.size w w2 := (HB0.out.alloc HB0.out.size _).trans (hb2.mono (by simp; omega))
  clear hb2
  obtain ⟨L, hL⟩ : ∃ L, L = layl 2 [J, I, G, P] := ⟨_, rfl⟩
  have hLl : L.length = 8 := by rw [hL, length_layl]; rfl
  rw [← hL, hLl] at hown
  have HL := Lib.hid hL
  have HLl := Lib.hid hLl
  obtain ⟨_, A2, c2, rfl, hc2, _, hr2⟩ := own_rd hown
  have HR2 := Lib.hid hr2
  have HB1 := Lib.hid hb1
  clear hL hLl hown hr2 hb1
  obtain ⟨wm, kc, hrm, hbm, hsm⟩ := mark_made w2
  have hbm1 := HB1.out.trans (hbm.mono HB1.out.size)
  have hr2m := (HR2.out.below hbm).more hbm.size
  have Hpart : Hid (∀ u : World, Below wm.heap.size wm u → ∀ p ∈ [((.slice (some ⟨w2.heap.size, 0, none⟩) 4 4 : Value), markL), (.slice A2 8 c2, L)], Part u p) := by
    intro u hu p hp
    have hs := hu.size
    simp only [List.mem_cons, List.not_mem_nil, or_false] at hp
    rcases hp with rfl | rfl
    · exact ⟨_, 4, 4, rfl, rfl, Nat.le_refl _, (hrm.below hu).more hs⟩
    · exact ⟨A2, 8, c2, rfl, HLl.out, hc2, (hr2m.below hu).more hs⟩
  have HBm := Lib.hid hbm1
  clear hbm hrm hr2m hbm1
  have hal : Below wm.heap.size wm (wm.alloc (.cells #[.slice (some ⟨w2.heap.size, 0, none⟩) 4 4, .slice A2 8 c2] 37)) := (Below.refl _ wm).alloc (Nat.le_refl _) _
  have htot : total [((.slice (some ⟨w2.heap.size, 0, none⟩) 4 4 : Value), markL), (.slice A2 8 c2, L)] = headL J I G P := by simp [total, headL, HL.out]
  have Htot := Lib.hid htot
  have Hal := Lib.hid hal
  clear htot hal
  go_wp2_with fail
  clear kc
  refine (concat_any [((.slice (some ⟨w2.heap.size, 0, none⟩) 4 4 : Value), markL), (.slice A2 8 c2, L)] _ 2 2 _ rfl ?_ (Hpart.out _ Hal.out) ?_ (by omega)).mono ?_
  · exact .inr ⟨wm.heap.size, 0, rfl, by simp, fun j u hu => by
      match j, hu with
      | 0, hu => rw [World.cell?_alloc_at _ _ _ _ rfl]; simpa using hu
      | 1, hu => rw [World.cell?_alloc_at _ _ _ _ rfl]; simpa using hu
      | j + 2, hu => simp at hu⟩
  · rw [Htot.out, length_headL]; omega
  rintro e w3 ⟨v, rfl, hown3, hb3⟩
  rw [Htot.out, length_headL] at hown3
  have hb3w : Below w.heap.size w w3 := (HBm.out.trans (Hal.out.mono HBm.out.size)).trans (hb3.mono (by have := HBm.out.size; simp; omega))
  obtain ⟨_, A3, c3, rfl, hc3, _, hr3⟩ := own_rd hown3
  have HR3 := Lib.hid hr3
  have HB3 := Lib.hid hb3w
  have Hl3 := Lib.hid (length_headL J I G P)
  clear hown3 hb3 hb3w hr3
  go_wp2_with (first
    | (go_at_call 155; refine (fill_ok (headL J I G P) A3 12 c3 60 _ Hl3.out HR3.out (by omega) (by omega)).mono ?_; rintro e w4 ⟨v, rfl, hown4, hb4⟩; have Hl4 := Lib.hid (show (padl (headL J I G P) 60).length = 60 from length_padl _ _ (by rw [length_headL]; omega)); rw [Hl4.out] at hown4; obtain ⟨hl4, A4, c4, rfl, hc4, _, hr4⟩ := own_rd hown4; have HR4 := Lib.hid hr4; have HB4 := Lib.hid (HB3.out.trans (hb4.mono HB3.out.size)); clear hown4 hb4 hr4 hl4)
    | (go_at_call 157; refine (seal_any (padl (headL J I G P) 60) A4 60 c4 _ Hl4.out HR4.out hc4 (by omega)).mono ?_; rintro e w5 ⟨v, rfl, hm5⟩; have HM5 := Lib.hid hm5; clear hm5))
  go_ret2
  exact ⟨_, rfl, own_mono HM5.out.1 HB4.out.size, HB4.out.trans (HM5.out.2.mono HB4.out.size)⟩

theorem slay_no {j i g p : Int} (h : ¬ Valid j i g p) (w : World) : Calls Tryz.prog 94 #[geoV j i g p] w fun e w' => e = .returned (.tuple #[.slice none 0 0, .int .i64 1]) ∧ Below w.heap.size w w' := by
  have H := Lib.hid h
  clear h
  unfold geoV
  go_enter Tryz.func94, Tryz.ntmps94
  go_wp2_with (go_at_call 98; refine (right_no H.out _).mono ?_; rintro e w' ⟨rfl, n, rfl⟩)
  go_ret2
  refine ⟨rfl, ?_⟩
  repeat (first | with_reducible exact Below.refl _ _ | with_reducible refine below_drewN ?_ _ | with_reducible refine Below.setCell ?_ ?_ _ | with_reducible refine Below.alloc ?_ ?_ _)
  all_goals (simp <;> omega)
end Go.Proofs.YtcjkbmmjpkghlaaGreat.Super

/-
  The geometry whose superblock given bytes are: what the program's own answer is.
-/
namespace Go.Proofs.YtcjkbmmjpkghlaaGreat.Super
open Go.Proofs.YtcjkbmmjpkghlaaGreat
open Go.RowKit

/-- The number that stands in the two bytes from a place on. -/
def numL (l : List UInt8) (k : Nat) : Nat := le ((l.drop k).take 2)
theorem numL_lt (l : List UInt8) (k : Nat) : numL l k < 65536 := by
  have h := le_lt ((l.drop k).take 2)
  have h2 : ((l.drop k).take 2).length ≤ 2 := by simp; omega
  have h3 : 256 ^ ((l.drop k).take 2).length ≤ 256 ^ 2 := Nat.pow_le_pow_right (by omega) h2
  unfold numL
  omega
theorem takel4 (l : List UInt8) (hl : l.length = 64) : takel 2 ((l.drop 4).take 8) = [numL l 4, numL l 6, numL l 8, numL l 10] := by
  have h : ((l.drop 4).take 8).length = 8 := by simp [hl]
  unfold takel
  rw [h]
  simp [numL, List.drop_take, List.take_take, List.drop_drop, List.range_succ]

theorem str_eqv (l m : List UInt8) : ((ByteArray.mk l.toArray).toList == (ByteArray.mk m.toArray).toList) = decide (l = m) := by
  rw [Bool.eq_iff_iff, beq_iff_eq, decide_eq_true_eq, ByteArray.toList_eq, ByteArray.toList_eq]

theorem equal_any (l m : List UInt8) (A : Option Addr) (n c : Nat) (A2 : Option Addr) (n2 c2 B B2 : Nat) (w : World) (hn : l.length = n) (hr : Rd w B A (bytesV l)) (hn2 : m.length = n2) (hr2 : Rd w B2 A2 (bytesV m)) :
    Calls Tryz.prog 114 #[.slice A n c, .slice A2 n2 c2] w fun e w' => e = .returned (.bool (l == m)) ∧ w = w' := by
  have h1 := str_of (c := c) hn hr
  have h2 := str_of (c := c2) hn2 hr2
  clear hn hr hn2 hr2
  go_enter Tryz.func114, Tryz.ntmps114
  go_wp2
  go_ret
  exact ⟨rfl, rfl⟩

theorem keepA {w w1 : World} {g1 : Nat} {a b c d : Value} {t : TypeId} {xs : Array Value} (h0 : w1.cell? ⟨g1, 0, none⟩ = some a) (h1 : w1.cell? ⟨g1, 1, none⟩ = some b) (h2 : w1.cell? ⟨g1, 2, none⟩ = some c) (h3 : w1.cell? ⟨g1, 3, none⟩ = some d) (h : Below w.heap.size w w1) :
    (w1.alloc (.cells xs t)).drew.cell? ⟨g1, 0, none⟩ = some a ∧ (w1.alloc (.cells xs t)).drew.cell? ⟨g1, 1, none⟩ = some b ∧ (w1.alloc (.cells xs t)).drew.cell? ⟨g1, 2, none⟩ = some c ∧ (w1.alloc (.cells xs t)).drew.cell? ⟨g1, 3, none⟩ = some d ∧ Below w.heap.size w (w1.alloc (.cells xs t)).drew :=
  ⟨Lib.cell?_alloc_marked _ h0, Lib.cell?_alloc_marked _ h1, Lib.cell?_alloc_marked _ h2, Lib.cell?_alloc_marked _ h3, (h.alloc h.size _).drew⟩

def zeroG : Value := geoV 0 0 0 0

set_option maxRecDepth 100000 in
theorem stake_len (A : Option Addr) (n c : Nat) (w : World) (h : n ≠ 64) : Calls Tryz.prog 117 #[.slice A n c] w fun e w' => e = .returned (.tuple #[zeroG, .int .i64 90]) ∧ Below w.heap.size w w' := by
  have h' : ¬ (n : Int) = 64 := by omega
  have H := Lib.hid h'
  have h2 : ((n : Int) != 64) = true := by simpa using h'
  clear h h'
  go_enter Tryz.func117, Tryz.ntmps117
  go_wp2
  refine bodyPost_ret (v := .tuple #[zeroG, .int .i64 90]) (by simp [results, Tryz.results117, go_sem, zeroG, geoV]) rfl ⟨rfl, ?_⟩
  repeat (first | with_reducible exact Below.refl _ _ | with_reducible refine below_drewN ?_ _ | with_reducible refine Below.setCell ?_ ?_ _ | with_reducible refine Below.alloc ?_ ?_ _)
  all_goals (simp <;> omega)

set_option maxHeartbeats 1600000 in
set_option maxRecDepth 100000 in
theorem stake_bad (l : List UInt8) (A : Option Addr) (c : Nat) (w : World) (hl : l.length = 64) (hr : Rd w w.heap.size A (bytesV l)) (hc : 64 ≤ c) (h : ¬ Valid (numL l 4) (numL l 6) (numL l 8) (numL l 10)) :
    Calls Tryz.prog 117 #[.slice A 64 c] w fun e w' => e = .returned (.tuple #[zeroG, .int .i64 90]) ∧ Below w.heap.size w w' := by
  have H := Lib.hid h
  have HT := Lib.hid (takel4 l hl)
  have hd := hr.drop (k := 4) (c := c) (by rw [length_bytesV]; omega) (by rw [length_bytesV]; omega)
  rw [if_neg (by omega), ← bytesV_drop] at hd
  have hd8 := hd.take 8
  rw [← bytesV_take] at hd8
  have HD := Lib.hid hd8
  have HL := Lib.hid (show ((l.drop 4).take 8).length = 8 by simp [hl])
  have bJ := numL_lt l 4
  have bI := numL_lt l 6
  have bG := numL_lt l 8
  have bP := numL_lt l 10
  generalize numL l 4 = J at *
  generalize numL l 6 = I at *
  generalize numL l 8 = G at *
  generalize numL l 10 = P at *
  clear hd hd8 h
  go_enter Tryz.func117, Tryz.ntmps117
  go_wp2_with fail
  refine (take_ok ((l.drop 4).take 8) _ 8 (c - 4) 4 2 _ HL.out ((HD.out.below ((Below.refl _ w).alloc (Nat.le_refl _) _)).more (by simp)) (by omega) (by omega) (by omega) (by omega) (by omega)).mono ?_
  rintro e w1 ⟨v, rfl, hm1⟩
  rw [HT.out] at hm1
  obtain ⟨hown1, hb1⟩ := hm1
  obtain ⟨g1, c1, rfl, hc1⟩ := own_pos hown1 (by simp)
  have q0 : w1.cell? ⟨g1, 0, none⟩ = some (.int .u64 (J : Int)) := hown1.cellAt 0 (by simp)
  have q1 : w1.cell? ⟨g1, 1, none⟩ = some (.int .u64 (I : Int)) := hown1.cellAt 1 (by simp)
  have q2 : w1.cell? ⟨g1, 2, none⟩ = some (.int .u64 (G : Int)) := hown1.cellAt 2 (by simp)
  have q3 : w1.cell? ⟨g1, 3, none⟩ = some (.int .u64 (P : Int)) := hown1.cellAt 3 (by simp)
  have HK1 := Lib.hid ((Bk.new w 29 [.int .i64 0, .int .i64 0, .int .i64 0, .int .i64 0]).below hb1 (by simp))
  have HB1 := Lib.hid (((Below.refl _ w).alloc (Nat.le_refl _) _).trans (hb1.mono (by simp)))
  have e4 : [J, I, G, P].length = 4 := rfl
  rw [e4] at hc1
  clear hown1 hb1 e4
  have z1 : IntKind.i64.wrap (J : Int) = J := IntWalk.i64_in _ (by omega)
  have z2 : IntKind.i64.wrap (I : Int) = I := IntWalk.i64_in _ (by omega)
  have z3 : IntKind.i64.wrap (G : Int) = G := IntWalk.i64_in _ (by omega)
  have z4 : IntKind.i64.wrap (P : Int) = P := IntWalk.i64_in _ (by omega)
  go_wp2_with fail
  go_region_held3 (fun u => u.cell? ⟨g1, 0, none⟩ = some (.int .u64 (J : Int)) ∧ u.cell? ⟨g1, 1, none⟩ = some (.int .u64 (I : Int)) ∧ u.cell? ⟨g1, 2, none⟩ = some (.int .u64 (G : Int)) ∧ u.cell? ⟨g1, 3, none⟩ = some (.int .u64 (P : Int)) ∧ Below w.heap.size w u) (first | exact ⟨q0, q1, q2, q3, HB1.out.drew⟩ | exact keepA q0 q1 q2 q3 HB1.out) (first | fail)
  have HBa := Lib.hid (HB1.out.alloc HB1.out.size (.cells #[.int .i64 (J : Int), .int .i64 (I : Int), .int .i64 (G : Int), .int .i64 (P : Int)] 29)).drew
  have HKa : Hid (Bk (w1.alloc (.cells #[.int .i64 (J : Int), .int .i64 (I : Int), .int .i64 (G : Int), .int .i64 (P : Int)] 29)).drew w.heap.size 29 [.int .i64 0, .int .i64 0, .int .i64 0, .int .i64 0]) := HK1.out.below ((Below.refl _ w1).alloc (Nat.le_refl _) _).drew HK1.out.lt
  have HGa : Hid (Bk (w1.alloc (.cells #[.int .i64 (J : Int), .int .i64 (I : Int), .int .i64 (G : Int), .int .i64 (P : Int)] 29)).drew w1.heap.size 29 [.int .i64 (J : Int), .int .i64 (I : Int), .int .i64 (G : Int), .int .i64 (P : Int)]) := Bk.new w1 29 _
  obtain ⟨wa, hwa⟩ : ∃ wa, wa = (w1.alloc (.cells #[.int .i64 (J : Int), .int .i64 (I : Int), .int .i64 (G : Int), .int .i64 (P : Int)] 29)).drew := ⟨_, rfl⟩
  rw [← hwa] at HBa HKa HGa ⊢
  clear hwa q0 q1 q2 q3 z1 z2 z3 z4
  have e0 := HGa.out.cell 0
  have e1 := HGa.out.cell 1
  have e2 := HGa.out.cell 2
  have e3 := HGa.out.cell 3
  go_wp2_with fail
  clear e0 e1 e2 e3
  refine (slay_no H.out _).mono ?_
  rintro e w2 ⟨rfl, hb2⟩
  have HK2 := Lib.hid (HKa.out.below hb2 HKa.out.lt)
  have c0 := HK2.out.cell 0
  have c1 := HK2.out.cell 1
  have c2 := HK2.out.cell 2
  have c3 := HK2.out.cell 3
  have f0 := HK2.out.frozen 0
  have f1 := HK2.out.frozen 1
  have f2 := HK2.out.frozen 2
  have f3 := HK2.out.frozen 3
  have HB2 := Lib.hid (HBa.out.trans (hb2.mono HBa.out.size))
  clear hb2
  go_wp2_with fail
  refine bodyPost_ret (v := .tuple #[zeroG, .int .i64 90]) (by simp [results, Tryz.results117, go_sem, zeroG, geoV, c0, c1, c2, c3]) rfl ⟨rfl, ?_⟩
  repeat (first | with_reducible exact HB2.out | with_reducible refine Below.setCell ?_ ?_ _)
  all_goals simp

set_option maxHeartbeats 1600000 in
set_option maxRecDepth 100000 in
theorem stake_not (l : List UInt8) (A : Option Addr) (c : Nat) (w : World) (hl : l.length = 64) (hr : Rd w w.heap.size A (bytesV l)) (hc : 64 ≤ c) (h : Valid (numL l 4) (numL l 6) (numL l 8) (numL l 10)) (hne : l ≠ superL (numL l 4) (numL l 6) (numL l 8) (numL l 10)) :
    Calls Tryz.prog 117 #[.slice A 64 c] w fun e w' => e = .returned (.tuple #[zeroG, .int .i64 90]) ∧ Below w.heap.size w w' := by
  have H := Lib.hid h
  have Hne : Hid ((l == superL (numL l 4) (numL l 6) (numL l 8) (numL l 10)) = false) := by unfold Hid; simpa using hne
  have Hl := Lib.hid hl
  have HR := Lib.hid hr
  clear hne
  have HT := Lib.hid (takel4 l hl)
  have hd := hr.drop (k := 4) (c := c) (by rw [length_bytesV]; omega) (by rw [length_bytesV]; omega)
  rw [if_neg (by omega), ← bytesV_drop] at hd
  have hd8 := hd.take 8
  rw [← bytesV_take] at hd8
  have HD := Lib.hid hd8
  have HL := Lib.hid (show ((l.drop 4).take 8).length = 8 by simp [hl])
  have bJ := numL_lt l 4
  have bI := numL_lt l 6
  have bG := numL_lt l 8
  have bP := numL_lt l 10
  generalize numL l 4 = J at *
  generalize numL l 6 = I at *
  generalize numL l 8 = G at *
  generalize numL l 10 = P at *
  clear hd hd8 h hl hr
  go_enter Tryz.func117, Tryz.ntmps117
  go_wp2_with fail
  refine (take_ok ((l.drop 4).take 8) _ 8 (c - 4) 4 2 _ HL.out ((HD.out.below ((Below.refl _ w).alloc (Nat.le_refl _) _)).more (by simp)) (by omega) (by omega) (by omega) (by omega) (by omega)).mono ?_
  rintro e w1 ⟨v, rfl, hm1⟩
  rw [HT.out] at hm1
  obtain ⟨hown1, hb1⟩ := hm1
  obtain ⟨g1, c1, rfl, hc1⟩ := own_pos hown1 (by simp)
  have q0 : w1.cell? ⟨g1, 0, none⟩ = some (.int .u64 (J : Int)) := hown1.cellAt 0 (by simp)
  have q1 : w1.cell? ⟨g1, 1, none⟩ = some (.int .u64 (I : Int)) := hown1.cellAt 1 (by simp)
  have q2 : w1.cell? ⟨g1, 2, none⟩ = some (.int .u64 (G : Int)) := hown1.cellAt 2 (by simp)
  have q3 : w1.cell? ⟨g1, 3, none⟩ = some (.int .u64 (P : Int)) := hown1.cellAt 3 (by simp)
  have HK1 := Lib.hid ((Bk.new w 29 [.int .i64 0, .int .i64 0, .int .i64 0, .int .i64 0]).below hb1 (by simp))
  have HB1 := Lib.hid (((Below.refl _ w).alloc (Nat.le_refl _) _).trans (hb1.mono (by simp)))
  have e4 : [J, I, G, P].length = 4 := rfl
  rw [e4] at hc1
  clear hown1 hb1 e4
  have z1 : IntKind.i64.wrap (J : Int) = J := IntWalk.i64_in _ (by omega)
  have z2 : IntKind.i64.wrap (I : Int) = I := IntWalk.i64_in _ (by omega)
  have z3 : IntKind.i64.wrap (G : Int) = G := IntWalk.i64_in _ (by omega)
  have z4 : IntKind.i64.wrap (P : Int) = P := IntWalk.i64_in _ (by omega)
  go_wp2_with fail
  go_region_held3 (fun u => u.cell? ⟨g1, 0, none⟩ = some (.int .u64 (J : Int)) ∧ u.cell? ⟨g1, 1, none⟩ = some (.int .u64 (I : Int)) ∧ u.cell? ⟨g1, 2, none⟩ = some (.int .u64 (G : Int)) ∧ u.cell? ⟨g1, 3, none⟩ = some (.int .u64 (P : Int)) ∧ Below w.heap.size w u) (first | exact ⟨q0, q1, q2, q3, HB1.out.drew⟩ | exact keepA q0 q1 q2 q3 HB1.out) (first | fail)
  have HBa := Lib.hid (HB1.out.alloc HB1.out.size (.cells #[.int .i64 (J : Int), .int .i64 (I : Int), .int .i64 (G : Int), .int .i64 (P : Int)] 29)).drew
  have HKa : Hid (Bk (w1.alloc (.cells #[.int .i64 (J : Int), .int .i64 (I : Int), .int .i64 (G : Int), .int .i64 (P : Int)] 29)).drew w.heap.size 29 [.int .i64 0, .int .i64 0, .int .i64 0, .int .i64 0]) := HK1.out.below ((Below.refl _ w1).alloc (Nat.le_refl _) _).drew HK1.out.lt
  have HGa : Hid (Bk (w1.alloc (.cells #[.int .i64 (J : Int), .int .i64 (I : Int), .int .i64 (G : Int), .int .i64 (P : Int)] 29)).drew w1.heap.size 29 [.int .i64 (J : Int), .int .i64 (I : Int), .int .i64 (G : Int), .int .i64 (P : Int)]) := Bk.new w1 29 _
  obtain ⟨wa, hwa⟩ : ∃ wa, wa = (w1.alloc (.cells #[.int .i64 (J : Int), .int .i64 (I : Int), .int .i64 (G : Int), .int .i64 (P : Int)] 29)).drew := ⟨_, rfl⟩
  rw [← hwa] at HBa HKa HGa ⊢
  clear hwa q0 q1 q2 q3 z1 z2 z3 z4
  have e0 := HGa.out.cell 0
  have e1 := HGa.out.cell 1
  have e2 := HGa.out.cell 2
  have e3 := HGa.out.cell 3
  go_wp2_with fail
  clear e0 e1 e2 e3
  refine (slay_yes H.out _).mono ?_
  rintro e w2 ⟨v, rfl, hown2, hb2⟩
  rw [length_super] at hown2
  obtain ⟨_, A2, d2, rfl, hd2, _, hr2⟩ := own_rd hown2
  have HR2 := Lib.hid hr2
  have HS := Lib.hid (length_super J I G P)
  have HK2 := Lib.hid (HKa.out.below hb2 HKa.out.lt)
  have c0 := HK2.out.cell 0
  have c1 := HK2.out.cell 1
  have c2 := HK2.out.cell 2
  have c3 := HK2.out.cell 3
  have f0 := HK2.out.frozen 0
  have f1 := HK2.out.frozen 1
  have f2 := HK2.out.frozen 2
  have f3 := HK2.out.frozen 3
  have HB2 := Lib.hid (HBa.out.trans (hb2.mono HBa.out.size))
  clear hb2 hown2 hr2
  go_wp2_with (go_at_call 114; refine (equal_any l (superL J I G P) A 64 c A2 64 d2 _ _ _ Hl.out (HR.out.below HB2.out) HS.out HR2.out).mono ?_; rintro e w' ⟨rfl, rfl⟩; rw [Hne.out])
  refine bodyPost_ret (v := .tuple #[zeroG, .int .i64 90]) (by simp [results, Tryz.results117, go_sem, zeroG, geoV, c0, c1, c2, c3]) rfl ⟨rfl, ?_⟩
  repeat (first | with_reducible exact HB2.out | with_reducible refine Below.setCell ?_ ?_ _)
  all_goals simp

set_option maxHeartbeats 1600000 in
set_option maxRecDepth 100000 in
theorem stake_yes (l : List UInt8) (A : Option Addr) (c : Nat) (w : World) (hl : l.length = 64) (hr : Rd w w.heap.size A (bytesV l)) (hc : 64 ≤ c) (h : Valid (numL l 4) (numL l 6) (numL l 8) (numL l 10)) (hne : l = superL (numL l 4) (numL l 6) (numL l 8) (numL l 10)) :
    Calls Tryz.prog 117 #[.slice A 64 c] w fun e w' => e = .returned (.tuple #[geoV (numL l 4) (numL l 6) (numL l 8) (numL l 10), .int .i64 0]) ∧ Below w.heap.size w w' := by
  have H := Lib.hid h
  have Hne : Hid ((l == superL (numL l 4) (numL l 6) (numL l 8) (numL l 10)) = true) := by unfold Hid; simpa using hne
  have Hl := Lib.hid hl
  have HR := Lib.hid hr
  clear hne
  have HT := Lib.hid (takel4 l hl)
  have hd := hr.drop (k := 4) (c := c) (by rw [length_bytesV]; omega) (by rw [length_bytesV]; omega)
  rw [if_neg (by omega), ← bytesV_drop] at hd
  have hd8 := hd.take 8
  rw [← bytesV_take] at hd8
  have HD := Lib.hid hd8
  have HL := Lib.hid (show ((l.drop 4).take 8).length = 8 by simp [hl])
  have bJ := numL_lt l 4
  have bI := numL_lt l 6
  have bG := numL_lt l 8
  have bP := numL_lt l 10
  generalize numL l 4 = J at *
  generalize numL l 6 = I at *
  generalize numL l 8 = G at *
  generalize numL l 10 = P at *
  clear hd hd8 h hl hr
  go_enter Tryz.func117, Tryz.ntmps117
  go_wp2_with fail
  refine (take_ok ((l.drop 4).take 8) _ 8 (c - 4) 4 2 _ HL.out ((HD.out.below ((Below.refl _ w).alloc (Nat.le_refl _) _)).more (by simp)) (by omega) (by omega) (by omega) (by omega) (by omega)).mono ?_
  rintro e w1 ⟨v, rfl, hm1⟩
  rw [HT.out] at hm1
  obtain ⟨hown1, hb1⟩ := hm1
  obtain ⟨g1, c1, rfl, hc1⟩ := own_pos hown1 (by simp)
  have q0 : w1.cell? ⟨g1, 0, none⟩ = some (.int .u64 (J : Int)) := hown1.cellAt 0 (by simp)
  have q1 : w1.cell? ⟨g1, 1, none⟩ = some (.int .u64 (I : Int)) := hown1.cellAt 1 (by simp)
  have q2 : w1.cell? ⟨g1, 2, none⟩ = some (.int .u64 (G : Int)) := hown1.cellAt 2 (by simp)
  have q3 : w1.cell? ⟨g1, 3, none⟩ = some (.int .u64 (P : Int)) := hown1.cellAt 3 (by simp)
  have HK1 := Lib.hid ((Bk.new w 29 [.int .i64 0, .int .i64 0, .int .i64 0, .int .i64 0]).below hb1 (by simp))
  have HB1 := Lib.hid (((Below.refl _ w).alloc (Nat.le_refl _) _).trans (hb1.mono (by simp)))
  have e4 : [J, I, G, P].length = 4 := rfl
  rw [e4] at hc1
  clear hown1 hb1 e4
  have z1 : IntKind.i64.wrap (J : Int) = J := IntWalk.i64_in _ (by omega)
  have z2 : IntKind.i64.wrap (I : Int) = I := IntWalk.i64_in _ (by omega)
  have z3 : IntKind.i64.wrap (G : Int) = G := IntWalk.i64_in _ (by omega)
  have z4 : IntKind.i64.wrap (P : Int) = P := IntWalk.i64_in _ (by omega)
  go_wp2_with fail
  go_region_held3 (fun u => u.cell? ⟨g1, 0, none⟩ = some (.int .u64 (J : Int)) ∧ u.cell? ⟨g1, 1, none⟩ = some (.int .u64 (I : Int)) ∧ u.cell? ⟨g1, 2, none⟩ = some (.int .u64 (G : Int)) ∧ u.cell? ⟨g1, 3, none⟩ = some (.int .u64 (P : Int)) ∧ Below w.heap.size w u) (first | exact ⟨q0, q1, q2, q3, HB1.out.drew⟩ | exact keepA q0 q1 q2 q3 HB1.out) (first | fail)
  have HBa := Lib.hid (HB1.out.alloc HB1.out.size (.cells #[.int .i64 (J : Int), .int .i64 (I : Int), .int .i64 (G : Int), .int .i64 (P : Int)] 29)).drew
  have HKa : Hid (Bk (w1.alloc (.cells #[.int .i64 (J : Int), .int .i64 (I : Int), .int .i64 (G : Int), .int .i64 (P : Int)] 29)).drew w.heap.size 29 [.int .i64 0, .int .i64 0, .int .i64 0, .int .i64 0]) := HK1.out.below ((Below.refl _ w1).alloc (Nat.le_refl _) _).drew HK1.out.lt
  have HGa : Hid (Bk (w1.alloc (.cells #[.int .i64 (J : Int), .int .i64 (I : Int), .int .i64 (G : Int), .int .i64 (P : Int)] 29)).drew w1.heap.size 29 [.int .i64 (J : Int), .int .i64 (I : Int), .int .i64 (G : Int), .int .i64 (P : Int)]) := Bk.new w1 29 _
  obtain ⟨wa, hwa⟩ : ∃ wa, wa = (w1.alloc (.cells #[.int .i64 (J : Int), .int .i64 (I : Int), .int .i64 (G : Int), .int .i64 (P : Int)] 29)).drew := ⟨_, rfl⟩
  rw [← hwa] at HBa HKa HGa ⊢
  clear hwa q0 q1 q2 q3 z1 z2 z3 z4
  have e0 := HGa.out.cell 0
  have e1 := HGa.out.cell 1
  have e2 := HGa.out.cell 2
  have e3 := HGa.out.cell 3
  go_wp2_with fail
  clear e0 e1 e2 e3
  refine (slay_yes H.out _).mono ?_
  rintro e w2 ⟨v, rfl, hown2, hb2⟩
  rw [length_super] at hown2
  obtain ⟨_, A2, d2, rfl, hd2, _, hr2⟩ := own_rd hown2
  have HR2 := Lib.hid hr2
  have HS := Lib.hid (length_super J I G P)
  have HK2 := Lib.hid (HKa.out.below hb2 HKa.out.lt)
  have HG2 := Lib.hid (HGa.out.below hb2 HGa.out.lt)
  have d0' := HG2.out.cell 0
  have d1' := HG2.out.cell 1
  have d2' := HG2.out.cell 2
  have d3' := HG2.out.cell 3
  have c0 := HK2.out.cell 0
  have c1 := HK2.out.cell 1
  have c2 := HK2.out.cell 2
  have c3 := HK2.out.cell 3
  have f0 := HK2.out.frozen 0
  have f1 := HK2.out.frozen 1
  have f2 := HK2.out.frozen 2
  have f3 := HK2.out.frozen 3
  have HB2 := Lib.hid (HBa.out.trans (hb2.mono HBa.out.size))
  clear hb2 hown2 hr2
  go_wp2_with (go_at_call 114; refine (equal_any l (superL J I G P) A 64 c A2 64 d2 _ _ _ Hl.out (HR.out.below HB2.out) HS.out HR2.out).mono ?_; rintro e w' ⟨rfl, rfl⟩; rw [Hne.out])
  refine bodyPost_ret (v := .tuple #[geoV J I G P, .int .i64 0]) (by simp [results, Tryz.results117, go_sem, geoV, c0, c1, c2, c3]) rfl ⟨rfl, ?_⟩
  repeat (first | with_reducible exact HB2.out | with_reducible refine Below.setCell ?_ ?_ _)
  all_goals simp
end Go.Proofs.YtcjkbmmjpkghlaaGreat.Super
