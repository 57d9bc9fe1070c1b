/-
  SpinOnes: to turn by 1, and to push by 0, leaves what there was, as its rests; to turn by the whirl 0 leaves 0.
-/
import Derived.Test.YtnplbehnlmlodaaC
namespace Go.Proofs.Ytnplbehnlmlodaa
open Go.ChangeShapes Go.WideShapes Go.ChangeAt Go.RowKit

theorem keepAB2 {w w1 w2 : World} {a b : Nat} {a0 a1 b0 b1 : Value} (hb : Below w1.heap.size w1 w2)
    (h : w1.cell? ⟨a, 0, none⟩ = some a0 ∧ w1.cell? ⟨a, 1, none⟩ = some a1 ∧ w1.cell? ⟨b, 0, none⟩ = some b0 ∧ w1.cell? ⟨b, 1, none⟩ = some b1 ∧ Below w.heap.size w w1) :
    w2.cell? ⟨a, 0, none⟩ = some a0 ∧ w2.cell? ⟨a, 1, none⟩ = some a1 ∧ w2.cell? ⟨b, 0, none⟩ = some b0 ∧ w2.cell? ⟨b, 1, none⟩ = some b1 ∧ Below w.heap.size w w2 :=
  ⟨keepC hb (lt_of h.1) h.1, keepC hb (lt_of h.2.1) h.2.1, keepC hb (lt_of h.2.2.1) h.2.2.1, keepC hb (lt_of h.2.2.2.1) h.2.2.2.1, h.2.2.2.2.trans (hb.mono h.2.2.2.2.size)⟩
theorem startOnes {w w1 : World} {a0 a1 b0 b1 : Value} {t : TypeId} (hb : Below (w.alloc (.cells #[a0, a1] t)).heap.size (w.alloc (.cells #[a0, a1] t)) w1) :
    let W := (w1.alloc (.cells #[b0, b1] t)).drew
    W.cell? ⟨w.heap.size, 0, none⟩ = some a0 ∧ W.cell? ⟨w.heap.size, 1, none⟩ = some a1 ∧ W.cell? ⟨w1.heap.size, 0, none⟩ = some b0 ∧ W.cell? ⟨w1.heap.size, 1, none⟩ = some b1 ∧ Below w.heap.size w W := by
  have hn : Below w1.heap.size w1 (w1.alloc (.cells #[b0, b1] t)).drew := ((Below.refl _ _).alloc (Nat.le_refl _) _).drew
  have k0 := keepC hb (by rw [size_alloc]; exact Nat.lt_succ_self _) (cell_new w #[a0, a1] t 0)
  have k1 := keepC hb (by rw [size_alloc]; exact Nat.lt_succ_self _) (cell_new w #[a0, a1] t 1)
  have h9 : Below w.heap.size w w1 := ((Below.refl _ _).alloc (Nat.le_refl _) _).trans (hb.mono (by simp))
  exact ⟨keepC hn (lt_of k0) k0, keepC hn (lt_of k1) k1, cell_new w1 #[b0, b1] t 0, cell_new w1 #[b0, b1] t 1, h9.trans (hn.mono h9.size)⟩

theorem pX_zero (x : Int) : pX x 0 = res x := by unfold pX res; rw [Int.add_zero]
theorem push_zero (x y : Int) (w : World) : Calls Try.prog 13 #[.agg #[.int .i64 (x), .int .i64 (y)], .agg #[.int .i64 0, .int .i64 0]] w fun e w' => e = .returned (.agg #[.int .i64 (res x), .int .i64 (res y)]) ∧ Below w.heap.size w w' := by
  have h := push_any x y 0 0 w
  rw [pX_zero, pX_zero] at h
  exact h
theorem push_zero' (x y : Int) (w : World) : Calls Try.prog 13 #[.agg #[.int .i64 (res x), .int .i64 (res y)], .agg #[.int .i64 0, .int .i64 0]] w fun e w' => e = .returned (.agg #[.int .i64 (res x), .int .i64 (res y)]) ∧ Below w.heap.size w w' := by
  have h := push_zero (res x) (res y) w
  rw [res_res, res_res] at h
  exact h
theorem turn_one (x y : Int) (w : World) : Calls Try.prog 11 #[.agg #[.int .i64 (x), .int .i64 (y)], .agg #[.int .i64 1, .int .i64 0]] w fun e w' => e = .returned (.agg #[.int .i64 (res x), .int .i64 (res y)]) ∧ Below w.heap.size w w' := by
  have h := turn_any x y 1 0 w
  rw [show tX x y 1 0 = res x by unfold tX res; congr 1; omega, show tY x y 1 0 = res y by unfold tY res; congr 1; omega] at h
  exact h
theorem turn_zero (x y : Int) (w : World) : Calls Try.prog 11 #[.agg #[.int .i64 (x), .int .i64 (y)], .agg #[.int .i64 0, .int .i64 0]] w fun e w' => e = .returned (.agg #[.int .i64 0, .int .i64 0]) ∧ Below w.heap.size w w' := by
  have h := turn_any x y 0 0 w
  rw [show tX x y 0 0 = 0 by unfold tX; omega, show tY x y 0 0 = 0 by unfold tY; omega] at h
  exact h
theorem right_res (x y : Int) (w : World) : Calls Try.prog 15 #[.agg #[.int .i64 (res x), .int .i64 (res y)]] w fun e w' => e = .returned (.bool true) ∧ Below w.heap.size w w' := by
  have h := right_any (res x) (res y) w
  rw [rightB_res] at h
  exact h
theorem bits_res (x y : Int) (w : World) : Calls Try.prog 17 #[.agg #[.int .i64 (res x), .int .i64 (res y)]] w fun e w' => e = .returned (.int .u8 (bitsI x y)) ∧ Below w.heap.size w w' := by
  have h := bits_any (res x) (res y) w
  rw [show bitsI (res x) (res y) = bitsI x y by unfold bitsI; rw [res_res, res_res]] at h
  exact h
theorem more_x (x y : Int) (w : World) : Calls Try.prog 22 #[.agg #[.int .i64 (x), .int .i64 (y)], .string ⟨#[120]⟩] w fun e w' => e = .returned (.agg #[.int .i64 (mX (res x) (res y) [120]), .int .i64 (mY (res x) (res y) [120])]) ∧ Below w.heap.size w w' := more_any x y ⟨#[120]⟩ w (by decide)
theorem more_x' (x y : Int) (w : World) : Calls Try.prog 22 #[.agg #[.int .i64 (res x), .int .i64 (res y)], .string ⟨#[120]⟩] w fun e w' => e = .returned (.agg #[.int .i64 (mX (res x) (res y) [120]), .int .i64 (mY (res x) (res y) [120])]) ∧ Below w.heap.size w w' := by
  have h := more_x (res x) (res y) w
  rw [res_res, res_res] at h
  exact h

set_option maxRecDepth 100000 in
set_option maxHeartbeats 1600000 in
theorem ones_walk (x y : Int) (w : World) : Calls Try.prog 9 #[.agg #[.int .i64 (x), .int .i64 (y)]] w fun e w' => e = .returned (.bool true) ∧ Below w.heap.size w w' := by
  have eq := spin_eql
  have gd := guard_at
  go_enter Try.func9, Try.ntmps9
  go_wp2_with fail
  refine (push_zero x y _).mono ?_
  rintro e w1 ⟨rfl, hb0⟩
  have hS := Lib.hid (startOnes (b0 := .int .i64 (res x)) (b1 := .int .i64 (res y)) hb0)
  clear hb0
  go_wp2_with fail
  go_region_held3 (fun w' => w'.cell? ⟨w.heap.size, 0, none⟩ = some (.int .i64 x) ∧ w'.cell? ⟨w.heap.size, 1, none⟩ = some (.int .i64 y) ∧ w'.cell? ⟨w1.heap.size, 0, none⟩ = some (.int .i64 (res x)) ∧ w'.cell? ⟨w1.heap.size, 1, none⟩ = some (.int .i64 (res y)) ∧ Below w.heap.size w w')
    (first | exact keepAB2 hb (by assumption) | exact hS.out)
    (first
      | (go_at_call 10; refine (shown_any _).mono ?_; rintro e w' ⟨rfl, hb⟩; have hB := (keepAB2 hb (by assumption)).2.2.2.2)
      | (go_at_call 15; (with_reducible refine (right_res x y _).mono ?_); rintro e w' ⟨rfl, hb⟩; have hB := (keepAB2 hb (by assumption)).2.2.2.2)
      | (go_at_call 11; (with_reducible refine (turn_one x y _).mono ?_); rintro e w' ⟨rfl, hb⟩; have hB := (keepAB2 hb (by assumption)).2.2.2.2)
      | (go_at_call 13; (with_reducible refine (push_zero' x y _).mono ?_); rintro e w' ⟨rfl, hb⟩; have hB := (keepAB2 hb (by assumption)).2.2.2.2)
      | (go_at_call 11; (with_reducible refine (turn_zero x y _).mono ?_); rintro e w' ⟨rfl, hb⟩; have hB := (keepAB2 hb (by assumption)).2.2.2.2)
      | (go_at_call 17; (with_reducible refine (bits_any x y _).mono ?_); rintro e w' ⟨rfl, hb⟩; have hB := (keepAB2 hb (by assumption)).2.2.2.2)
      | (go_at_call 17; (with_reducible refine (bits_res x y _).mono ?_); rintro e w' ⟨rfl, hb⟩; have hB := (keepAB2 hb (by assumption)).2.2.2.2)
      | (go_at_call 22; (with_reducible refine (more_x x y _).mono ?_); rintro e w' ⟨rfl, hb⟩; have hB := (keepAB2 hb (by assumption)).2.2.2.2)
      | (go_at_call 22; (with_reducible refine (more_x' x y _).mono ?_); rintro e w' ⟨rfl, hb⟩; have hB := (keepAB2 hb (by assumption)).2.2.2.2))
  go_wp2
  go_ret
  exact ⟨rfl, hB⟩

theorem ones_contract (H : Type) (enc : TypeId × Value → H) (W : World) (base : Nat) (args : Array Value) (ds gs : List (DataW H)) (before : List MemPlace)
    (hval : ∀ (j : Nat) t v, Try.f9.params[j]? = some t → args[j]? = some v → Value.okWide Try.prog W .any base t v)
    (hW : DataW.Whole enc Try.prog Try.f9.params.toList Rows.spinOnesSpec.vars false W args.toList ds gs before) :
    Calls Try.prog 9 args W fun e W' => ∃ v, e = .returned v ∧ Rows.spinOnesSpec.post enc Try.prog Try.f9 false true false false W args v W' := by
  have hW' := hW
  have hlt : ∀ x ∈ before, x.block < W.heap.size := fun x hx => hW.lt x hx
  obtain ⟨p, q, hA0, hV, rfl, _, _⟩ := hW
  have hA : DataW.TrodAll enc Try.prog W 0 (fun _ => true) true Try.f9.params.toList args.toList ds p := hA0
  rw [Try.params9] at hA hval
  obtain ⟨v0, vs0, d0, ds0, p0, q0, hargs, rfl, rfl, h0, r0⟩ := trodAll_cons hA
  obtain ⟨rfl, rfl, rfl⟩ := trodAll_nil r0
  obtain rfl : args = #[v0] := by cases args; simp_all
  obtain ⟨rfl, rfl⟩ := trodVars_none hV
  clear hA0
  obtain ⟨x0, y0, rfl⟩ := open_spin (hval 0 23 v0 rfl rfl) h0
  refine (ones_walk x0 y0 W).mono fun e W' ⟨he, hb⟩ => ?_
  subst he
  exact ⟨_, rfl, law_post laid (by kernel_rfl) Try.underlying4 (by rw [Try.params9]; decide +kernel) rfl hW' ⟨rfl, rfl, rfl⟩ hb⟩

set_option maxRecDepth 100000 in
theorem ones_lifted (os : Os) (started : os.Started) (H : Type) (enc : TypeId × Value → H) :
    ReturnsInHanded {} Try.checked os 9 .any (Rows.spinOnesSpec.pre6 enc Try.prog Try.f9 Rows.spinOnesRow.domain false) (Rows.spinOnesSpec.post enc Try.prog Try.f9 false true false false) := by
  refine returnsInHanded_of_change (C := Try.checked) own started (by kernel_rfl) Try.func9
    (ChangeSpec.witness6 (enc := enc) (C := Try.checked) false ⟨#[], #[.agg #[.int .i64 0, .int .i64 0]], []⟩ 8 (by kernel_rfl) (by kernel_rfl) (by kernel_rfl) (by kernel_rfl)) ?_
  intro W base args ds gs before hval hW _ _
  exact ones_contract H enc W base args ds gs before hval hW

/-- SpinOnes is true for every input. -/
theorem ones_holds : Rows.SpinOnesSaid :=
  OpenClaim.holds_of_wide 9 Try.f9 rfl rfl rfl rfl rfl rfl rfl ⟨rfl, rfl, rfl, rfl, rfl⟩ rfl rfl rfl rfl rfl (by kernel_rfl) Try.func9 (by kernel_rfl)
    (of_decide_eq_true (by kernel_rfl)) (by unfold Func.isWrapper; first | (rw [if_pos (by decide +kernel)]; kernel_rfl) | (rw [if_neg (by decide +kernel)]; exact ⟨rfl, rfl⟩))
    (fun os started H enc _ => ones_lifted os started H enc)
end Go.Proofs.Ytnplbehnlmlodaa
