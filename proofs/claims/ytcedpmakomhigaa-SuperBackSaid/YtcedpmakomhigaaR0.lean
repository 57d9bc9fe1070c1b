/-
  Whether a geometry is valid: what the program's and the document's own answers are.
-/
import Derived.Test.YtcedpmakomhigaaP
namespace Go.Proofs.Ytcedpmakomhigaa
open Go.RowKit

/-- What a call leaves that boxes its geometry, reads, and makes nothing else. -/
def Boxed (w : World) (j i g p : Int) (w' : World) : Prop := ∃ n, w' = (w.alloc (.cells #[.int .i64 j, .int .i64 i, .int .i64 g, .int .i64 p] 23)).drewN n
theorem made_box (w : World) (xs : Array Value) (t : TypeId) (n : Nat) : Below w.heap.size w ((w.alloc (.cells xs t)).drewN n) := below_drewN ((Below.refl _ w).alloc (Nat.le_refl _) _) n
theorem Boxed.below {w w' : World} {j i g p : Int} (h : Boxed w j i g p w') : Below w.heap.size w w' := by
  obtain ⟨n, rfl⟩ := h
  exact made_box _ _ _ _

set_option maxRecDepth 100000 in
theorem right_yes {j i g p : Int} (h : Valid j i g p) (w : World) : Calls Try.prog 14 #[geoV j i g p] w fun e w' => e = .returned (.bool true) ∧ Boxed w j i g p w' := by
  have q := h.q
  have q' : decide (p ≤ 512 / g) = true := decide_eq_true q
  obtain ⟨j1, j2, i1, i2, i3, g1, g2, p1, gp⟩ := h
  unfold geoV
  go_enter Try.func14, Try.ntmps14
  go_wp2
  go_quiet (fail)
  go_wp2
  go_ret
  exact ⟨rfl, _, rfl⟩
set_option maxHeartbeats 3200000 in
set_option maxRecDepth 100000 in
theorem right_no {j i g p : Int} (h : ¬ Valid j i g p) (w : World) : Calls Try.prog 14 #[geoV j i g p] w fun e w' => e = .returned (.bool false) ∧ Boxed w j i g p w' := by
  by_cases j1 : 3 ≤ j
  rotate_left
  · clear h
    have q' : decide (3 ≤ j) = false := decide_eq_false j1
    unfold geoV
    go_enter Try.func14, Try.ntmps14
    go_wp2
    go_quiet (fail)
    go_wp2
    go_ret
    exact ⟨rfl, _, rfl⟩
  by_cases j2 : j ≤ 1000
  rotate_left
  · clear h
    have q' : decide (j ≤ 1000) = false := decide_eq_false j2
    unfold geoV
    go_enter Try.func14, Try.ntmps14
    go_wp2
    go_quiet (fail)
    go_wp2
    go_ret
    exact ⟨rfl, _, rfl⟩
  by_cases i1 : 2 ≤ i
  rotate_left
  · clear h
    have q' : decide (2 ≤ i) = false := decide_eq_false i1
    unfold geoV
    go_enter Try.func14, Try.ntmps14
    go_wp2
    go_quiet (fail)
    go_wp2
    go_ret
    exact ⟨rfl, _, rfl⟩
  by_cases i2 : i ≤ 64
  rotate_left
  · clear h
    have q' : decide (i ≤ 64) = false := decide_eq_false i2
    unfold geoV
    go_enter Try.func14, Try.ntmps14
    go_wp2
    go_quiet (fail)
    go_wp2
    go_ret
    exact ⟨rfl, _, rfl⟩
  by_cases i3 : i % 2 = 0
  rotate_left
  · clear h
    have i4 : i % 2 = 1 := by omega
    unfold geoV
    go_enter Try.func14, Try.ntmps14
    go_wp2
    go_quiet (fail)
    go_wp2
    go_ret
    exact ⟨rfl, _, rfl⟩
  by_cases g1 : 1 ≤ g
  rotate_left
  · clear h
    have q' : decide (1 ≤ g) = false := decide_eq_false g1
    unfold geoV
    go_enter Try.func14, Try.ntmps14
    go_wp2
    go_quiet (fail)
    go_wp2
    go_ret
    exact ⟨rfl, _, rfl⟩
  by_cases g2 : g ≤ 64
  rotate_left
  · clear h
    have q' : decide (g ≤ 64) = false := decide_eq_false g2
    unfold geoV
    go_enter Try.func14, Try.ntmps14
    go_wp2
    go_quiet (fail)
    go_wp2
    go_ret
    exact ⟨rfl, _, rfl⟩
  by_cases p1 : 1 ≤ p
  rotate_left
  · clear h
    have q' : decide (1 ≤ p) = false := decide_eq_false p1
    unfold geoV
    go_enter Try.func14, Try.ntmps14
    go_wp2
    go_quiet (fail)
    go_wp2
    go_ret
    exact ⟨rfl, _, rfl⟩
  by_cases q : p ≤ 512 / g
  rotate_left
  · clear h
    have q' : decide (p ≤ 512 / g) = false := decide_eq_false q
    unfold geoV
    go_enter Try.func14, Try.ntmps14
    go_wp2
    go_quiet (fail)
    go_wp2
    go_ret
    exact ⟨rfl, _, rfl⟩
  exact (h (Valid.of_q j1 j2 i1 i2 i3 g1 g2 p1 q)).elim

set_option maxRecDepth 100000 in
theorem rright_yes {j i g p : Int} (h : Valid j i g p) (w : World) : Calls Try.prog 15 #[geoV j i g p] w fun e w' => e = .returned (.bool true) ∧ Boxed w j i g p w' := by
  have p2 := h.p2
  have gp1 := h.gp1
  obtain ⟨j1, j2, i1, i2, i3, g1, g2, p1, gp⟩ := h
  have q' : decide (g * p ≤ 512) = true := decide_eq_true gp
  unfold geoV
  go_enter Try.func15, Try.ntmps15
  go_wp2
  go_ret
  exact ⟨rfl, 0, rfl⟩
set_option maxHeartbeats 3200000 in
set_option maxRecDepth 100000 in
theorem rright_no {j i g p : Int} (h : ¬ Valid j i g p) (w : World) : Calls Try.prog 15 #[geoV j i g p] w fun e w' => e = .returned (.bool false) ∧ Boxed w j i g p w' := by
  by_cases j1 : 3 ≤ j
  rotate_left
  · clear h
    have q' : decide (3 ≤ j) = false := decide_eq_false j1
    have r' : decide (j < 3) = true := decide_eq_true (by omega)
    unfold geoV
    go_enter Try.func15, Try.ntmps15
    go_wp2
    go_ret
    exact ⟨rfl, 0, rfl⟩
  by_cases j2 : j ≤ 1000
  rotate_left
  · clear h
    have q' : decide (j ≤ 1000) = false := decide_eq_false j2
    have r' : decide (1000 < j) = true := decide_eq_true (by omega)
    unfold geoV
    go_enter Try.func15, Try.ntmps15
    go_wp2
    go_ret
    exact ⟨rfl, 0, rfl⟩
  by_cases i1 : 2 ≤ i
  rotate_left
  · clear h
    have q' : decide (2 ≤ i) = false := decide_eq_false i1
    have r' : decide (i < 2) = true := decide_eq_true (by omega)
    unfold geoV
    go_enter Try.func15, Try.ntmps15
    go_wp2
    go_ret
    exact ⟨rfl, 0, rfl⟩
  by_cases i2 : i ≤ 64
  rotate_left
  · clear h
    have q' : decide (i ≤ 64) = false := decide_eq_false i2
    have r' : decide (64 < i) = true := decide_eq_true (by omega)
    unfold geoV
    go_enter Try.func15, Try.ntmps15
    go_wp2
    go_ret
    exact ⟨rfl, 0, rfl⟩
  by_cases i3 : i % 2 = 0
  rotate_left
  · clear h
    have i4 : i % 2 = 1 := by omega
    unfold geoV
    go_enter Try.func15, Try.ntmps15
    go_wp2
    go_ret
    exact ⟨rfl, 0, rfl⟩
  by_cases g1 : 1 ≤ g
  rotate_left
  · clear h
    have q' : decide (1 ≤ g) = false := decide_eq_false g1
    have r' : decide (g < 1) = true := decide_eq_true (by omega)
    unfold geoV
    go_enter Try.func15, Try.ntmps15
    go_wp2
    go_ret
    exact ⟨rfl, 0, rfl⟩
  by_cases g2 : g ≤ 64
  rotate_left
  · clear h
    have q' : decide (g ≤ 64) = false := decide_eq_false g2
    have r' : decide (64 < g) = true := decide_eq_true (by omega)
    unfold geoV
    go_enter Try.func15, Try.ntmps15
    go_wp2
    go_ret
    exact ⟨rfl, 0, rfl⟩
  by_cases p1 : 1 ≤ p
  rotate_left
  · clear h
    have q' : decide (1 ≤ p) = false := decide_eq_false p1
    have r' : decide (p < 1) = true := decide_eq_true (by omega)
    unfold geoV
    go_enter Try.func15, Try.ntmps15
    go_wp2
    go_ret
    exact ⟨rfl, 0, rfl⟩
  by_cases p2 : p ≤ 512
  rotate_left
  · clear h
    have q' : decide (p ≤ 512) = false := decide_eq_false p2
    have r' : decide (512 < p) = true := decide_eq_true (by omega)
    unfold geoV
    go_enter Try.func15, Try.ntmps15
    go_wp2
    go_ret
    exact ⟨rfl, 0, rfl⟩
  by_cases q : g * p ≤ 512
  rotate_left
  · clear h
    have q' : decide (g * p ≤ 512) = false := decide_eq_false q
    have r' : decide (512 < g * p) = true := decide_eq_true (by omega)
    have gp1 : g * p ≤ 64 * 512 := Int.mul_le_mul g2 p2 (by omega) (by omega)
    have gp0 : 0 ≤ g * p := Int.mul_nonneg (by omega) (by omega)
    unfold geoV
    go_enter Try.func15, Try.ntmps15
    go_wp2
    go_ret
    exact ⟨rfl, 0, rfl⟩
  exact (h ⟨j1, j2, i1, i2, i3, g1, g2, p1, q⟩).elim
end Go.Proofs.Ytcedpmakomhigaa
