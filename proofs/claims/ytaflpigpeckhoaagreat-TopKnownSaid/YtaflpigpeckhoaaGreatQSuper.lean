/-
  The geometry of a disk on paper: which ones are valid, the superblock's bytes, and the numbers that stand in a sector.
-/
import Derived.Test.YtaflpigpeckhoaaGreatQF
import Derived.IntWalk
namespace Go.Proofs.YtaflpigpeckhoaaGreat.Super
open Go.Proofs.YtaflpigpeckhoaaGreat
open Go.RowKit

/-- A geometry: the journal, the inodes, the groups, the blocks of a group. -/
def geoV (j i g p : Int) : Value := .agg #[.int .i64 j, .int .i64 i, .int .i64 g, .int .i64 p]
/-- A layout. -/
def layoutV (j l g b i k a : Int) : Value := .agg #[.int .i64 j, .int .i64 l, .int .i64 g, .int .i64 b, .int .i64 i, .int .i64 k, .int .i64 a]

/-- A valid geometry. -/
structure Valid (j i g p : Int) : Prop where
  j1 : 3 ≤ j
  j2 : j ≤ 1000
  i1 : 2 ≤ i
  i2 : i ≤ 64
  i3 : i % 2 = 0
  g1 : 1 ≤ g
  g2 : g ≤ 64
  p1 : 1 ≤ p
  gp : g * p ≤ 512
theorem Valid.p2 {j i g p : Int} (h : Valid j i g p) : p ≤ 512 := by
  have h1 := h.g1
  have h2 := h.p1
  have h3 := h.gp
  have : 1 * p ≤ g * p := Int.mul_le_mul_of_nonneg_right h1 (by omega)
  omega
theorem Valid.q {j i g p : Int} (h : Valid j i g p) : p ≤ 512 / g :=
  Int.le_ediv_of_mul_le (by have := h.g1; omega) (by rw [Int.mul_comm]; exact h.gp)
theorem Valid.of_q {j i g p : Int} (j1 : 3 ≤ j) (j2 : j ≤ 1000) (i1 : 2 ≤ i) (i2 : i ≤ 64) (i3 : i % 2 = 0) (g1 : 1 ≤ g) (g2 : g ≤ 64) (p1 : 1 ≤ p) (q : p ≤ 512 / g) : Valid j i g p :=
  ⟨j1, j2, i1, i2, i3, g1, g2, p1, by
    have := Int.mul_le_of_le_ediv (by omega) q
    rw [Int.mul_comm]; exact this⟩
theorem Valid.gp1 {j i g p : Int} (h : Valid j i g p) : 1 ≤ g * p := by
  have h1 := h.g1
  have h2 := h.p1
  have : 1 * p ≤ g * p := Int.mul_le_mul_of_nonneg_right h1 (by omega)
  omega
end Go.Proofs.YtaflpigpeckhoaaGreat.Super

/-
  Whether a geometry is valid: what the program's and the document's own answers are.
-/
namespace Go.Proofs.YtaflpigpeckhoaaGreat.Super
open Go.Proofs.YtaflpigpeckhoaaGreat
open Go.RowKit

/-- What a call leaves that boxes its geometry, reads, and makes nothing else. -/
def Boxed (w : World) (j i g p : Int) (w' : World) : Prop := ∃ n, w' = (w.alloc (.cells #[.int .i64 j, .int .i64 i, .int .i64 g, .int .i64 p] 25)).drewN n
theorem made_box (w : World) (xs : Array Value) (t : TypeId) (n : Nat) : Below w.heap.size w ((w.alloc (.cells xs t)).drewN n) := below_drewN ((Below.refl _ w).alloc (Nat.le_refl _) _) n
theorem Boxed.below {w w' : World} {j i g p : Int} (h : Boxed w j i g p w') : Below w.heap.size w w' := by
  obtain ⟨n, rfl⟩ := h
  exact made_box _ _ _ _

set_option maxRecDepth 100000 in
theorem right_yes {j i g p : Int} (h : Valid j i g p) (w : World) : Calls Tryz.prog 18 #[geoV j i g p] w fun e w' => e = .returned (.bool true) ∧ Boxed w j i g p w' := by
  have q := h.q
  have q' : decide (p ≤ 512 / g) = true := decide_eq_true q
  obtain ⟨j1, j2, i1, i2, i3, g1, g2, p1, gp⟩ := h
  unfold geoV
  go_enter Tryz.func18, Tryz.ntmps18
  go_wp2
  go_quiet (fail)
  go_wp2
  go_ret
  exact ⟨rfl, _, rfl⟩
set_option maxHeartbeats 3200000 in
set_option maxRecDepth 100000 in
theorem right_no {j i g p : Int} (h : ¬ Valid j i g p) (w : World) : Calls Tryz.prog 18 #[geoV j i g p] w fun e w' => e = .returned (.bool false) ∧ Boxed w j i g p w' := by
  by_cases j1 : 3 ≤ j
  rotate_left
  · clear h
    have q' : decide (3 ≤ j) = false := decide_eq_false j1
    unfold geoV
    go_enter Tryz.func18, Tryz.ntmps18
    go_wp2
    go_quiet (fail)
    go_wp2
    go_ret
    exact ⟨rfl, _, rfl⟩
  by_cases j2 : j ≤ 1000
  rotate_left
  · clear h
    have q' : decide (j ≤ 1000) = false := decide_eq_false j2
    unfold geoV
    go_enter Tryz.func18, Tryz.ntmps18
    go_wp2
    go_quiet (fail)
    go_wp2
    go_ret
    exact ⟨rfl, _, rfl⟩
  by_cases i1 : 2 ≤ i
  rotate_left
  · clear h
    have q' : decide (2 ≤ i) = false := decide_eq_false i1
    unfold geoV
    go_enter Tryz.func18, Tryz.ntmps18
    go_wp2
    go_quiet (fail)
    go_wp2
    go_ret
    exact ⟨rfl, _, rfl⟩
  by_cases i2 : i ≤ 64
  rotate_left
  · clear h
    have q' : decide (i ≤ 64) = false := decide_eq_false i2
    unfold geoV
    go_enter Tryz.func18, Tryz.ntmps18
    go_wp2
    go_quiet (fail)
    go_wp2
    go_ret
    exact ⟨rfl, _, rfl⟩
  by_cases i3 : i % 2 = 0
  rotate_left
  · clear h
    have i4 : i % 2 = 1 := by omega
    unfold geoV
    go_enter Tryz.func18, Tryz.ntmps18
    go_wp2
    go_quiet (fail)
    go_wp2
    go_ret
    exact ⟨rfl, _, rfl⟩
  by_cases g1 : 1 ≤ g
  rotate_left
  · clear h
    have q' : decide (1 ≤ g) = false := decide_eq_false g1
    unfold geoV
    go_enter Tryz.func18, Tryz.ntmps18
    go_wp2
    go_quiet (fail)
    go_wp2
    go_ret
    exact ⟨rfl, _, rfl⟩
  by_cases g2 : g ≤ 64
  rotate_left
  · clear h
    have q' : decide (g ≤ 64) = false := decide_eq_false g2
    unfold geoV
    go_enter Tryz.func18, Tryz.ntmps18
    go_wp2
    go_quiet (fail)
    go_wp2
    go_ret
    exact ⟨rfl, _, rfl⟩
  by_cases p1 : 1 ≤ p
  rotate_left
  · clear h
    have q' : decide (1 ≤ p) = false := decide_eq_false p1
    unfold geoV
    go_enter Tryz.func18, Tryz.ntmps18
    go_wp2
    go_quiet (fail)
    go_wp2
    go_ret
    exact ⟨rfl, _, rfl⟩
  by_cases q : p ≤ 512 / g
  rotate_left
  · clear h
    have q' : decide (p ≤ 512 / g) = false := decide_eq_false q
    unfold geoV
    go_enter Tryz.func18, Tryz.ntmps18
    go_wp2
    go_quiet (fail)
    go_wp2
    go_ret
    exact ⟨rfl, _, rfl⟩
  exact (h (Valid.of_q j1 j2 i1 i2 i3 g1 g2 p1 q)).elim

end Go.Proofs.YtaflpigpeckhoaaGreat.Super

/-
  The blocks of a geometry, its layout, how many sectors tell what is known, and a block's group: what the program's and the document's own answers are.
-/
namespace Go.Proofs.YtaflpigpeckhoaaGreat.Super
open Go.Proofs.YtaflpigpeckhoaaGreat
open Go.RowKit

set_option maxHeartbeats 1600000 in
set_option maxRecDepth 100000 in
theorem blocks_any {j i g p : Int} (h : Valid j i g p) (w : World) : Calls Tryz.prog 41 #[geoV j i g p] w fun e w' => e = .returned (.int .i64 (g * p)) ∧ Boxed w j i g p w' := by
  have h1 := h.gp
  have h2 := h.gp1
  clear h
  unfold geoV
  go_enter Tryz.func41, Tryz.ntmps41
  go_wp2
  go_ret
  exact ⟨rfl, 0, rfl⟩

/-- The layout of a geometry. -/
def planV (j i g p : Int) : Value := layoutV 1 (1 + j) (1 + j + 1) (1 + j + 1 + 1) (1 + j + 1 + 1 + 1) (1 + j + 1 + 1 + 1 + i / 2) (1 + j + 1 + 1 + 1 + i / 2 + g * p)
def noneV : Value := layoutV 0 0 0 0 0 0 0

set_option maxHeartbeats 1600000 in
set_option maxRecDepth 100000 in
theorem plan_yes {j i g p : Int} (h : Valid j i g p) (w : World) : Calls Tryz.prog 16 #[geoV j i g p] w fun e w' => e = .returned (.tuple #[planV j i g p, .int .i64 0]) ∧ Below w.heap.size w w' := by
  have H := Lib.hid h
  have h1 := h.gp
  have h2 := h.gp1
  obtain ⟨j1, j2, i1, i2, i3, g1, g2, p1, gp⟩ := h
  have hw : IntKind.i64.wrap (1 + j + 1 + 1 + 1 + i / 2 + g * p) = 1 + j + 1 + 1 + 1 + i / 2 + g * p := IntWalk.i64_in _ (by omega)
  unfold geoV
  go_enter Tryz.func16, Tryz.ntmps16
  go_wp2_with (go_at_call 18; refine (right_yes H.out _).mono ?_; rintro e w' ⟨rfl, n, rfl⟩)
  go_region_with ((go_at_call 41; refine (blocks_any H.out _).mono ?_; rintro e w' ⟨rfl, n2, rfl⟩))
  all_goals
    go_wp2
    refine bodyPost_ret (v := .tuple #[planV j i g p, .int .i64 0]) (by simp [results, Tryz.results16, go_sem, planV, layoutV]) rfl ⟨rfl, ?_⟩
    repeat (first | with_reducible exact Below.refl _ _ | with_reducible refine below_drewN ?_ _ | with_reducible refine Below.setCell ?_ ?_ _ | with_reducible refine Below.alloc ?_ ?_ _)
    all_goals (simp <;> omega)
set_option maxHeartbeats 1600000 in
set_option maxRecDepth 100000 in
theorem plan_no {j i g p : Int} (h : ¬ Valid j i g p) (w : World) : Calls Tryz.prog 16 #[geoV j i g p] w fun e w' => e = .returned (.tuple #[noneV, .int .i64 1]) ∧ Below w.heap.size w w' := by
  have H := Lib.hid h
  clear h
  unfold geoV
  go_enter Tryz.func16, Tryz.ntmps16
  go_wp2_with (go_at_call 18; refine (right_no H.out _).mono ?_; rintro e w' ⟨rfl, n, rfl⟩)
  refine bodyPost_ret (v := .tuple #[noneV, .int .i64 1]) (by simp [results, Tryz.results16, go_sem, noneV, layoutV]) rfl ⟨rfl, ?_⟩
  repeat (first | with_reducible exact Below.refl _ _ | with_reducible refine below_drewN ?_ _ | with_reducible refine Below.setCell ?_ ?_ _ | with_reducible refine Below.alloc ?_ ?_ _)
  all_goals (simp <;> omega)

end Go.Proofs.YtaflpigpeckhoaaGreat.Super

/-
  How many sectors tell what is known, and a block's group: what the program's and the document's own answers are.
-/
namespace Go.Proofs.YtaflpigpeckhoaaGreat.Super
open Go.Proofs.YtaflpigpeckhoaaGreat
open Go.RowKit

set_option maxHeartbeats 1600000 in
set_option maxRecDepth 100000 in
theorem meta_yes {j i g p : Int} (h : Valid j i g p) (w : World) : Calls Tryz.prog 66 #[geoV j i g p] w fun e w' => e = .returned (.int .i64 (3 + i / 2)) ∧ Below w.heap.size w w' := by
  have H := Lib.hid h
  have h1 := h.gp
  have h2 := h.gp1
  obtain ⟨j1, j2, i1, i2, i3, g1, g2, p1, gp⟩ := h
  have hw : IntKind.i64.wrap (1 + j + 1 + 1 + 1 + i / 2 - (1 + j)) = 3 + i / 2 := by rw [IntWalk.i64_in _ (by omega)]; omega
  have hw2 : 1 + j + 1 + 1 + 1 + i / 2 - (1 + j) = 3 + i / 2 := by omega
  have hpl : planV j i g p = .agg #[.int .i64 1, .int .i64 (1 + j), .int .i64 (1 + j + 1), .int .i64 (1 + j + 1 + 1), .int .i64 (1 + j + 1 + 1 + 1), .int .i64 (1 + j + 1 + 1 + 1 + i / 2), .int .i64 (1 + j + 1 + 1 + 1 + i / 2 + g * p)] := rfl
  unfold geoV
  go_enter Tryz.func66, Tryz.ntmps66
  go_wp2_with (go_at_call 16; refine (plan_yes H.out _).mono ?_; rintro e w1 ⟨rfl, hb⟩)
  have hB1 : Below w.heap.size w w1 := ((Below.refl _ w).alloc (Nat.le_refl _) _).trans (hb.mono (by simp))
  have hs1 := hB1.size
  go_ret
  refine ⟨rfl, ?_⟩
  repeat (first | with_reducible exact hB1 | with_reducible exact Below.refl _ _ | with_reducible refine below_drewN ?_ _ | with_reducible refine Below.setCell ?_ ?_ _ | with_reducible refine Below.alloc ?_ ?_ _)
  all_goals (first | assumption | (simp <;> omega))
set_option maxHeartbeats 1600000 in
set_option maxRecDepth 100000 in
theorem meta_no {j i g p : Int} (h : ¬ Valid j i g p) (w : World) : Calls Tryz.prog 66 #[geoV j i g p] w fun e w' => e = .returned (.int .i64 0) ∧ Below w.heap.size w w' := by
  have H := Lib.hid h
  clear h
  have hpl : noneV = .agg #[.int .i64 0, .int .i64 0, .int .i64 0, .int .i64 0, .int .i64 0, .int .i64 0, .int .i64 0] := rfl
  unfold geoV
  go_enter Tryz.func66, Tryz.ntmps66
  go_wp2_with (go_at_call 16; refine (plan_no H.out _).mono ?_; rintro e w1 ⟨rfl, hb⟩)
  have hB1 : Below w.heap.size w w1 := ((Below.refl _ w).alloc (Nat.le_refl _) _).trans (hb.mono (by simp))
  have hs1 := hB1.size
  go_ret
  refine ⟨rfl, ?_⟩
  repeat (first | with_reducible exact hB1 | with_reducible exact Below.refl _ _ | with_reducible refine below_drewN ?_ _ | with_reducible refine Below.setCell ?_ ?_ _ | with_reducible refine Below.alloc ?_ ?_ _)
  all_goals (first | assumption | (simp <;> omega))
/-- Is there such a block? -/
def InB (g p x : Int) : Prop := 0 ≤ x ∧ x < g * p
end Go.Proofs.YtaflpigpeckhoaaGreat.Super
