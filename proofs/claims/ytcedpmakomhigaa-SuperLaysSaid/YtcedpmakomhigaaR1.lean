/-
  The blocks of a geometry, its layout, how many sectors tell what is known, and a block's group: what the program's and the document's own answers are.
-/
import Derived.Test.YtcedpmakomhigaaR0
import Derived.IntWalk
namespace Go.Proofs.Ytcedpmakomhigaa
open Go.RowKit

set_option maxHeartbeats 1600000 in
set_option maxRecDepth 100000 in
theorem blocks_any {j i g p : Int} (h : Valid j i g p) (w : World) : Calls Try.prog 22 #[geoV j i g p] w fun e w' => e = .returned (.int .i64 (g * p)) ∧ Boxed w j i g p w' := by
  have h1 := h.gp
  have h2 := h.gp1
  clear h
  unfold geoV
  go_enter Try.func22, Try.ntmps22
  go_wp2
  go_ret
  exact ⟨rfl, 0, rfl⟩

/-- The layout of a geometry. -/
def planV (j i g p : Int) : Value := layoutV 1 (1 + j) (1 + j + 1) (1 + j + 1 + 1) (1 + j + 1 + 1 + 1) (1 + j + 1 + 1 + 1 + i / 2) (1 + j + 1 + 1 + 1 + i / 2 + g * p)
def noneV : Value := layoutV 0 0 0 0 0 0 0

set_option maxHeartbeats 1600000 in
set_option maxRecDepth 100000 in
theorem plan_yes {j i g p : Int} (h : Valid j i g p) (w : World) : Calls Try.prog 9 #[geoV j i g p] w fun e w' => e = .returned (.tuple #[planV j i g p, .int .i64 0]) ∧ Below w.heap.size w w' := by
  have H := Lib.hid h
  have h1 := h.gp
  have h2 := h.gp1
  obtain ⟨j1, j2, i1, i2, i3, g1, g2, p1, gp⟩ := h
  have hw : IntKind.i64.wrap (1 + j + 1 + 1 + 1 + i / 2 + g * p) = 1 + j + 1 + 1 + 1 + i / 2 + g * p := IntWalk.i64_in _ (by omega)
  unfold geoV
  go_enter Try.func9, Try.ntmps9
  go_wp2_with (go_at_call 14; refine (right_yes H.out _).mono ?_; rintro e w' ⟨rfl, n, rfl⟩)
  go_region_with ((go_at_call 22; refine (blocks_any H.out _).mono ?_; rintro e w' ⟨rfl, n2, rfl⟩))
  all_goals
    go_wp2
    refine bodyPost_ret (v := .tuple #[planV j i g p, .int .i64 0]) (by simp [results, Try.results9, go_sem, planV, layoutV]) rfl ⟨rfl, ?_⟩
    repeat (first | with_reducible exact Below.refl _ _ | with_reducible refine below_drewN ?_ _ | with_reducible refine Below.setCell ?_ ?_ _ | with_reducible refine Below.alloc ?_ ?_ _)
    all_goals (simp <;> omega)
set_option maxHeartbeats 1600000 in
set_option maxRecDepth 100000 in
theorem plan_no {j i g p : Int} (h : ¬ Valid j i g p) (w : World) : Calls Try.prog 9 #[geoV j i g p] w fun e w' => e = .returned (.tuple #[noneV, .int .i64 1]) ∧ Below w.heap.size w w' := by
  have H := Lib.hid h
  clear h
  unfold geoV
  go_enter Try.func9, Try.ntmps9
  go_wp2_with (go_at_call 14; refine (right_no H.out _).mono ?_; rintro e w' ⟨rfl, n, rfl⟩)
  refine bodyPost_ret (v := .tuple #[noneV, .int .i64 1]) (by simp [results, Try.results9, go_sem, noneV, layoutV]) rfl ⟨rfl, ?_⟩
  repeat (first | with_reducible exact Below.refl _ _ | with_reducible refine below_drewN ?_ _ | with_reducible refine Below.setCell ?_ ?_ _ | with_reducible refine Below.alloc ?_ ?_ _)
  all_goals (simp <;> omega)

set_option maxHeartbeats 1600000 in
set_option maxRecDepth 100000 in
theorem rplan_yes {j i g p : Int} (h : Valid j i g p) (w : World) : Calls Try.prog 10 #[geoV j i g p] w fun e w' => e = .returned (.tuple #[planV j i g p, .int .i64 0]) ∧ Below w.heap.size w w' := by
  have H := Lib.hid h
  have h1 := h.gp
  have h2 := h.gp1
  obtain ⟨j1, j2, i1, i2, i3, g1, g2, p1, gp⟩ := h
  have hw : IntKind.i64.wrap (1 + j + 1 + 1 + 1 + i / 2 + g * p) = 1 + j + 1 + 1 + 1 + i / 2 + g * p := IntWalk.i64_in _ (by omega)
  unfold geoV
  go_enter Try.func10, Try.ntmps10
  go_wp2_with (go_at_call 15; refine (rright_yes H.out _).mono ?_; rintro e w' ⟨rfl, n, rfl⟩)
  refine bodyPost_ret (v := .tuple #[planV j i g p, .int .i64 0]) (by simp [results, Try.results10, go_sem, planV, layoutV]) rfl ⟨rfl, ?_⟩
  repeat (first | with_reducible exact Below.refl _ _ | with_reducible refine below_drewN ?_ _ | with_reducible refine Below.setCell ?_ ?_ _ | with_reducible refine Below.alloc ?_ ?_ _)
  all_goals (simp <;> omega)
set_option maxHeartbeats 1600000 in
set_option maxRecDepth 100000 in
theorem rplan_no {j i g p : Int} (h : ¬ Valid j i g p) (w : World) : Calls Try.prog 10 #[geoV j i g p] w fun e w' => e = .returned (.tuple #[noneV, .int .i64 1]) ∧ Below w.heap.size w w' := by
  have H := Lib.hid h
  clear h
  unfold geoV
  go_enter Try.func10, Try.ntmps10
  go_wp2_with (go_at_call 15; refine (rright_no H.out _).mono ?_; rintro e w' ⟨rfl, n, rfl⟩)
  refine bodyPost_ret (v := .tuple #[noneV, .int .i64 1]) (by simp [results, Try.results10, go_sem, noneV, layoutV]) rfl ⟨rfl, ?_⟩
  repeat (first | with_reducible exact Below.refl _ _ | with_reducible refine below_drewN ?_ _ | with_reducible refine Below.setCell ?_ ?_ _ | with_reducible refine Below.alloc ?_ ?_ _)
  all_goals (simp <;> omega)
end Go.Proofs.Ytcedpmakomhigaa
