/-
  How many sectors tell what is known, and a block's group: what the program's and the document's own answers are.
-/
import Derived.Test.YtcedpmakomhigaaR1
namespace Go.Proofs.Ytcedpmakomhigaa
open Go.RowKit

set_option maxHeartbeats 1600000 in
set_option maxRecDepth 100000 in
theorem meta_yes {j i g p : Int} (h : Valid j i g p) (w : World) : Calls Try.prog 16 #[geoV j i g p] w fun e w' => e = .returned (.int .i64 (3 + i / 2)) ∧ Below w.heap.size w w' := by
  have H := Lib.hid h
  have h1 := h.gp
  have h2 := h.gp1
  obtain ⟨j1, j2, i1, i2, i3, g1, g2, p1, gp⟩ := h
  have hw : IntKind.i64.wrap (1 + j + 1 + 1 + 1 + i / 2 - (1 + j)) = 3 + i / 2 := by rw [IntWalk.i64_in _ (by omega)]; omega
  have hw2 : 1 + j + 1 + 1 + 1 + i / 2 - (1 + j) = 3 + i / 2 := by omega
  have hpl : planV j i g p = .agg #[.int .i64 1, .int .i64 (1 + j), .int .i64 (1 + j + 1), .int .i64 (1 + j + 1 + 1), .int .i64 (1 + j + 1 + 1 + 1), .int .i64 (1 + j + 1 + 1 + 1 + i / 2), .int .i64 (1 + j + 1 + 1 + 1 + i / 2 + g * p)] := rfl
  unfold geoV
  go_enter Try.func16, Try.ntmps16
  go_wp2_with (go_at_call 9; refine (plan_yes H.out _).mono ?_; rintro e w1 ⟨rfl, hb⟩)
  have hB1 : Below w.heap.size w w1 := ((Below.refl _ w).alloc (Nat.le_refl _) _).trans (hb.mono (by simp))
  have hs1 := hB1.size
  go_ret
  refine ⟨rfl, ?_⟩
  repeat (first | with_reducible exact hB1 | with_reducible exact Below.refl _ _ | with_reducible refine below_drewN ?_ _ | with_reducible refine Below.setCell ?_ ?_ _ | with_reducible refine Below.alloc ?_ ?_ _)
  all_goals (first | assumption | (simp <;> omega))
set_option maxHeartbeats 1600000 in
set_option maxRecDepth 100000 in
theorem meta_no {j i g p : Int} (h : ¬ Valid j i g p) (w : World) : Calls Try.prog 16 #[geoV j i g p] w fun e w' => e = .returned (.int .i64 0) ∧ Below w.heap.size w w' := by
  have H := Lib.hid h
  clear h
  have hpl : noneV = .agg #[.int .i64 0, .int .i64 0, .int .i64 0, .int .i64 0, .int .i64 0, .int .i64 0, .int .i64 0] := rfl
  unfold geoV
  go_enter Try.func16, Try.ntmps16
  go_wp2_with (go_at_call 9; refine (plan_no H.out _).mono ?_; rintro e w1 ⟨rfl, hb⟩)
  have hB1 : Below w.heap.size w w1 := ((Below.refl _ w).alloc (Nat.le_refl _) _).trans (hb.mono (by simp))
  have hs1 := hB1.size
  go_ret
  refine ⟨rfl, ?_⟩
  repeat (first | with_reducible exact hB1 | with_reducible exact Below.refl _ _ | with_reducible refine below_drewN ?_ _ | with_reducible refine Below.setCell ?_ ?_ _ | with_reducible refine Below.alloc ?_ ?_ _)
  all_goals (first | assumption | (simp <;> omega))
set_option maxRecDepth 100000 in
theorem rmeta_yes {j i g p : Int} (h : Valid j i g p) (w : World) : Calls Try.prog 17 #[geoV j i g p] w fun e w' => e = .returned (.int .i64 (3 + i / 2)) ∧ Below w.heap.size w w' := by
  have H := Lib.hid h
  obtain ⟨j1, j2, i1, i2, i3, g1, g2, p1, gp⟩ := h
  unfold geoV
  go_enter Try.func17, Try.ntmps17
  go_wp2_with (go_at_call 15; refine (rright_yes H.out _).mono ?_; rintro e w1 ⟨rfl, n, rfl⟩)
  go_ret
  refine ⟨rfl, ?_⟩
  repeat (first | with_reducible exact Below.refl _ _ | with_reducible refine below_drewN ?_ _ | with_reducible refine Below.setCell ?_ ?_ _ | with_reducible refine Below.alloc ?_ ?_ _)
  all_goals (simp <;> omega)
set_option maxRecDepth 100000 in
theorem rmeta_no {j i g p : Int} (h : ¬ Valid j i g p) (w : World) : Calls Try.prog 17 #[geoV j i g p] w fun e w' => e = .returned (.int .i64 0) ∧ Below w.heap.size w w' := by
  have H := Lib.hid h
  clear h
  unfold geoV
  go_enter Try.func17, Try.ntmps17
  go_wp2_with (go_at_call 15; refine (rright_no H.out _).mono ?_; rintro e w1 ⟨rfl, n, rfl⟩)
  go_ret
  refine ⟨rfl, ?_⟩
  repeat (first | with_reducible exact Below.refl _ _ | with_reducible refine below_drewN ?_ _ | with_reducible refine Below.setCell ?_ ?_ _ | with_reducible refine Below.alloc ?_ ?_ _)
  all_goals (simp <;> omega)

/-- Is there such a block? -/
def InB (g p x : Int) : Prop := 0 ≤ x ∧ x < g * p
set_option maxRecDepth 100000 in
theorem group_none {j i g p : Int} (x : Int) (h : ¬ Valid j i g p) (w : World) : Calls Try.prog 11 #[geoV j i g p, .int .i64 x] w fun e w' => e = .returned (.tuple #[.int .i64 0, .bool false]) ∧ Below w.heap.size w w' := by
  have H := Lib.hid h
  clear h
  unfold geoV
  go_enter Try.func11, Try.ntmps11
  go_wp2_with (go_at_call 14; refine (right_no H.out _).mono ?_; rintro e w' ⟨rfl, n, rfl⟩)
  go_ret2
  refine ⟨rfl, ?_⟩
  repeat (first | with_reducible exact Below.refl _ _ | with_reducible refine below_drewN ?_ _ | with_reducible refine Below.setCell ?_ ?_ _ | with_reducible refine Below.alloc ?_ ?_ _)
  all_goals (simp <;> omega)
set_option maxRecDepth 100000 in
theorem group_no {j i g p : Int} (x : Int) (h : Valid j i g p) (hx : ¬ InB g p x) (w : World) : Calls Try.prog 11 #[geoV j i g p, .int .i64 x] w fun e w' => e = .returned (.tuple #[.int .i64 0, .bool false]) ∧ Below w.heap.size w w' := by
  have H := Lib.hid h
  by_cases h0 : x < 0
  · clear hx
    unfold geoV
    go_enter Try.func11, Try.ntmps11
    go_wp2_with (go_at_call 14; refine (right_yes H.out _).mono ?_; rintro e w' ⟨rfl, n, rfl⟩)
    go_ret2
    refine ⟨rfl, ?_⟩
    repeat (first | with_reducible exact Below.refl _ _ | with_reducible refine below_drewN ?_ _ | with_reducible refine Below.setCell ?_ ?_ _ | with_reducible refine Below.alloc ?_ ?_ _)
    all_goals (simp <;> omega)
  · have h1 : g * p ≤ x := by unfold InB at hx; omega
    have h1' : decide (g * p ≤ x) = true := decide_eq_true h1
    clear hx
    unfold geoV
    go_enter Try.func11, Try.ntmps11
    go_wp2_with (first
      | (go_at_call 14; refine (right_yes H.out _).mono ?_; rintro e w' ⟨rfl, n, rfl⟩)
      | (go_at_call 22; refine (blocks_any H.out _).mono ?_; rintro e w' ⟨rfl, n2, rfl⟩))
    go_ret2
    refine ⟨rfl, ?_⟩
    repeat (first | with_reducible exact Below.refl _ _ | with_reducible refine below_drewN ?_ _ | with_reducible refine Below.setCell ?_ ?_ _ | with_reducible refine Below.alloc ?_ ?_ _)
    all_goals (simp <;> omega)
set_option maxRecDepth 100000 in
theorem group_yes {j i g p : Int} (x : Int) (h : Valid j i g p) (hx : InB g p x) (w : World) : Calls Try.prog 11 #[geoV j i g p, .int .i64 x] w fun e w' => e = .returned (.tuple #[.int .i64 (x / p), .bool true]) ∧ Below w.heap.size w w' := by
  have H := Lib.hid h
  obtain ⟨h0, h1⟩ := hx
  have h2 : ¬ g * p ≤ x := by omega
  have h2' : decide (g * p ≤ x) = false := decide_eq_false h2
  have p1 := h.p1
  have gp := h.gp
  clear h
  unfold geoV
  go_enter Try.func11, Try.ntmps11
  go_wp2_with (first
    | (go_at_call 14; refine (right_yes H.out _).mono ?_; rintro e w' ⟨rfl, n, rfl⟩)
    | (go_at_call 22; refine (blocks_any H.out _).mono ?_; rintro e w' ⟨rfl, n2, rfl⟩))
  go_ret2
  refine ⟨rfl, ?_⟩
  repeat (first | with_reducible exact Below.refl _ _ | with_reducible refine below_drewN ?_ _ | with_reducible refine Below.setCell ?_ ?_ _ | with_reducible refine Below.alloc ?_ ?_ _)
  all_goals (simp <;> omega)

set_option maxRecDepth 100000 in
theorem rgroup_none {j i g p : Int} (x : Int) (h : ¬ Valid j i g p) (w : World) : Calls Try.prog 12 #[geoV j i g p, .int .i64 x] w fun e w' => e = .returned (.tuple #[.int .i64 0, .bool false]) ∧ Below w.heap.size w w' := by
  have H := Lib.hid h
  clear h
  unfold geoV
  go_enter Try.func12, Try.ntmps12
  go_wp2_with (go_at_call 15; refine (rright_no H.out _).mono ?_; rintro e w' ⟨rfl, n, rfl⟩)
  go_ret2
  refine ⟨rfl, ?_⟩
  repeat (first | with_reducible exact Below.refl _ _ | with_reducible refine below_drewN ?_ _ | with_reducible refine Below.setCell ?_ ?_ _ | with_reducible refine Below.alloc ?_ ?_ _)
  all_goals (simp <;> omega)
set_option maxRecDepth 100000 in
theorem rgroup_no {j i g p : Int} (x : Int) (h : Valid j i g p) (hx : ¬ InB g p x) (w : World) : Calls Try.prog 12 #[geoV j i g p, .int .i64 x] w fun e w' => e = .returned (.tuple #[.int .i64 0, .bool false]) ∧ Below w.heap.size w w' := by
  have H := Lib.hid h
  by_cases h0 : x < 0
  · clear hx
    unfold geoV
    go_enter Try.func12, Try.ntmps12
    go_wp2_with (go_at_call 15; refine (rright_yes H.out _).mono ?_; rintro e w' ⟨rfl, n, rfl⟩)
    go_ret2
    refine ⟨rfl, ?_⟩
    repeat (first | with_reducible exact Below.refl _ _ | with_reducible refine below_drewN ?_ _ | with_reducible refine Below.setCell ?_ ?_ _ | with_reducible refine Below.alloc ?_ ?_ _)
    all_goals (simp <;> omega)
  · have h1 : g * p ≤ x := by unfold InB at hx; omega
    have h1' : decide (g * p ≤ x) = true := decide_eq_true h1
    have gp := h.gp
    have gp1 := h.gp1
    clear hx
    unfold geoV
    go_enter Try.func12, Try.ntmps12
    go_wp2_with (go_at_call 15; refine (rright_yes H.out _).mono ?_; rintro e w' ⟨rfl, n, rfl⟩)
    go_ret2
    refine ⟨rfl, ?_⟩
    repeat (first | with_reducible exact Below.refl _ _ | with_reducible refine below_drewN ?_ _ | with_reducible refine Below.setCell ?_ ?_ _ | with_reducible refine Below.alloc ?_ ?_ _)
    all_goals (simp <;> omega)
set_option maxRecDepth 100000 in
theorem rgroup_yes {j i g p : Int} (x : Int) (h : Valid j i g p) (hx : InB g p x) (w : World) : Calls Try.prog 12 #[geoV j i g p, .int .i64 x] w fun e w' => e = .returned (.tuple #[.int .i64 (x / p), .bool true]) ∧ Below w.heap.size w w' := by
  have H := Lib.hid h
  obtain ⟨h0, h1⟩ := hx
  have h2 : ¬ g * p ≤ x := by omega
  have h2' : decide (g * p ≤ x) = false := decide_eq_false h2
  have p1 := h.p1
  have p2 := h.p2
  have gp := h.gp
  have gp1 := h.gp1
  clear h
  unfold geoV
  go_enter Try.func12, Try.ntmps12
  go_wp2_with (go_at_call 15; refine (rright_yes H.out _).mono ?_; rintro e w' ⟨rfl, n, rfl⟩)
  go_loop [1, 6] (fun b k => ∃ r m : Nat, b = .int .i64 r ∧ k = .int .i64 m ∧ r ≤ 512 ∧ m ≤ 512 ∧ Hid (x = (r : Int) + (m : Int) * p)) (fun b _ => (intOf b).toNat)
  case atStart => exact ⟨x.toNat, 0, by go_num <;> omega, rfl, by omega, by omega, by unfold Hid; omega⟩
  case round =>
    obtain ⟨r, m, rfl, rfl, hr, hm, Hx⟩ := hrel
    by_cases hlt : p ≤ r
    · have hmul : (((m + 1 : Nat) : Int)) * p = (m : Int) * p + p := by rw [Int.natCast_add, Int.add_mul]; simp
      have hm1 : m + 1 ≤ 512 := by
        have h1 : ((m + 1 : Nat) : Int) * 1 ≤ ((m + 1 : Nat) : Int) * p := Int.mul_le_mul_of_nonneg_left p1 (by omega)
        have := Hx.out
        omega
      have Hx2 : Hid (x = (((r : Int) - p).toNat : Int) + ((m + 1 : Nat) : Int) * p) := by
        have := Hx.out
        unfold Hid
        rw [hmul]
        omega
      clear hmul
      go_wp2
      go_round
      case rel => exact ⟨((r : Int) - p).toNat, m + 1, by go_num <;> omega, by go_num, by omega, hm1, Hx2⟩
      case measure => simp [intOf]; omega
    · go_wp2
      go_ret2
      have hq : x / p = m := by
        rw [Hx.out, Int.add_mul_ediv_right _ _ (by omega), Int.ediv_eq_zero_of_lt (by omega) (by omega)]
        omega
      rw [hq]
      refine ⟨rfl, ?_⟩
      repeat (first | with_reducible exact Below.refl _ _ | with_reducible refine below_drewN ?_ _ | with_reducible refine Below.setCell ?_ ?_ _ | with_reducible refine Below.alloc ?_ ?_ _)
      all_goals (simp <;> omega)
end Go.Proofs.Ytcedpmakomhigaa
