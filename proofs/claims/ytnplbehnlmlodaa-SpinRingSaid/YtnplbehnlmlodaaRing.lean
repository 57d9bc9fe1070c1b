/-
  SpinRing: turning and pushing do not ask for an order, and to turn what was pushed is to push what was turned.
-/
import Derived.Test.YtnplbehnlmlodaaC
namespace Go.Proofs.Ytnplbehnlmlodaa
open Go.ChangeShapes Go.WideShapes Go.ChangeAt Go.RowKit

theorem keepABC {w w1 w2 : World} {a b c d i j : Int} (hb : Below w1.heap.size w1 w2)
    (h : w1.cell? ⟨w.heap.size, 0, none⟩ = some (.int .i64 a) ∧ w1.cell? ⟨w.heap.size, 1, none⟩ = some (.int .i64 b) ∧ w1.cell? ⟨w.heap.size + 1, 0, none⟩ = some (.int .i64 c) ∧ w1.cell? ⟨w.heap.size + 1, 1, none⟩ = some (.int .i64 d) ∧ w1.cell? ⟨w.heap.size + 1 + 1, 0, none⟩ = some (.int .i64 i) ∧ w1.cell? ⟨w.heap.size + 1 + 1, 1, none⟩ = some (.int .i64 j) ∧ Below w.heap.size w w1) :
    w2.cell? ⟨w.heap.size, 0, none⟩ = some (.int .i64 a) ∧ w2.cell? ⟨w.heap.size, 1, none⟩ = some (.int .i64 b) ∧ w2.cell? ⟨w.heap.size + 1, 0, none⟩ = some (.int .i64 c) ∧ w2.cell? ⟨w.heap.size + 1, 1, none⟩ = some (.int .i64 d) ∧ w2.cell? ⟨w.heap.size + 1 + 1, 0, none⟩ = some (.int .i64 i) ∧ w2.cell? ⟨w.heap.size + 1 + 1, 1, none⟩ = some (.int .i64 j) ∧ Below w.heap.size w w2 := by
  obtain ⟨h1, h2, h3, h4, h5, h6, h7⟩ := h
  exact ⟨keepC hb (lt_of h1) h1, keepC hb (lt_of h2) h2, keepC hb (lt_of h3) h3, keepC hb (lt_of h4) h4, keepC hb (lt_of h5) h5, keepC hb (lt_of h6) h6, h7.trans (hb.mono h7.size)⟩
theorem startABC (w : World) (a b c d i j : Int) (t : TypeId) :
    let W := ((w.alloc (.cells #[.int .i64 a, .int .i64 b] t)).alloc (.cells #[.int .i64 c, .int .i64 d] t)).alloc (.cells #[.int .i64 i, .int .i64 j] t)
    W.cell? ⟨w.heap.size, 0, none⟩ = some (.int .i64 a) ∧ W.cell? ⟨w.heap.size, 1, none⟩ = some (.int .i64 b) ∧ W.cell? ⟨w.heap.size + 1, 0, none⟩ = some (.int .i64 c) ∧ W.cell? ⟨w.heap.size + 1, 1, none⟩ = some (.int .i64 d) ∧ W.cell? ⟨w.heap.size + 1 + 1, 0, none⟩ = some (.int .i64 i) ∧ W.cell? ⟨w.heap.size + 1 + 1, 1, none⟩ = some (.int .i64 j) ∧ Below w.heap.size w W := by
  intro W
  obtain ⟨h1, h2, h3, h4, h5, h6, h7, h8, h9⟩ := start2n w (.int .i64 a) (.int .i64 b) (.int .i64 c) (.int .i64 d) (.int .i64 i) (.int .i64 j) t
  have cr := cell_new ((w.alloc (.cells #[.int .i64 a, .int .i64 b] t)).alloc (.cells #[.int .i64 c, .int .i64 d] t)) #[Value.int .i64 i, .int .i64 j] t
  rw [size_alloc, size_alloc] at cr
  exact ⟨h1, h2, h3, h4, cr 0, cr 1, h9⟩

theorem turn_ba (a b c d : Int) (w : World) : Calls Try.prog 11 #[.agg #[.int .i64 (c), .int .i64 (d)], .agg #[.int .i64 (a), .int .i64 (b)]] w fun e w' => e = .returned (.agg #[.int .i64 (tX a b c d), .int .i64 (tY a b c d)]) ∧ Below w.heap.size w w' := by
  have h := turn_any c d a b w
  rw [tX_comm, tY_comm] at h
  exact h
theorem push_ba (a b c d : Int) (w : World) : Calls Try.prog 13 #[.agg #[.int .i64 (c), .int .i64 (d)], .agg #[.int .i64 (a), .int .i64 (b)]] w fun e w' => e = .returned (.agg #[.int .i64 (pX a c), .int .i64 (pX b d)]) ∧ Below w.heap.size w w' := by
  have h := push_any c d a b w
  rw [pX_comm a c, pX_comm b d] at h
  exact h
theorem right_turn (a b c d : Int) (w : World) : Calls Try.prog 15 #[.agg #[.int .i64 (tX a b c d), .int .i64 (tY a b c d)]] w fun e w' => e = .returned (.bool true) ∧ Below w.heap.size w w' := by
  have h := right_any (tX a b c d) (tY a b c d) w
  rw [show rightB (tX a b c d) (tY a b c d) = true by simp [rightB, res_tX, res_tY]] at h
  exact h
theorem right_push (a b c d : Int) (w : World) : Calls Try.prog 15 #[.agg #[.int .i64 (pX a c), .int .i64 (pX b d)]] w fun e w' => e = .returned (.bool true) ∧ Below w.heap.size w w' := by
  have h := right_any (pX a c) (pX b d) w
  rw [show rightB (pX a c) (pX b d) = true by simp [rightB, res_pX]] at h
  exact h
theorem turn_a_bc (a b c d i j : Int) (w : World) : Calls Try.prog 11 #[.agg #[.int .i64 (a), .int .i64 (b)], .agg #[.int .i64 (tX c d i j), .int .i64 (tY c d i j)]] w fun e w' => e = .returned (.agg #[.int .i64 (tX (tX a b c d) (tY a b c d) i j), .int .i64 (tY (tX a b c d) (tY a b c d) i j)]) ∧ Below w.heap.size w w' := by
  have h := turn_any a b (tX c d i j) (tY c d i j) w
  rw [tX_assoc, tY_assoc] at h
  exact h
theorem push_a_bc (a b c d i j : Int) (w : World) : Calls Try.prog 13 #[.agg #[.int .i64 (a), .int .i64 (b)], .agg #[.int .i64 (pX c i), .int .i64 (pX d j)]] w fun e w' => e = .returned (.agg #[.int .i64 (pX (pX a c) i), .int .i64 (pX (pX b d) j)]) ∧ Below w.heap.size w w' := by
  have h := push_any a b (pX c i) (pX d j) w
  rw [pX_assoc, pX_assoc] at h
  exact h
theorem push_tt (a b c d i j : Int) (w : World) : Calls Try.prog 13 #[.agg #[.int .i64 (tX a b c d), .int .i64 (tY a b c d)], .agg #[.int .i64 (tX a b i j), .int .i64 (tY a b i j)]] w fun e w' => e = .returned (.agg #[.int .i64 (tX a b (pX c i) (pX d j)), .int .i64 (tY a b (pX c i) (pX d j))]) ∧ Below w.heap.size w w' := by
  have h := push_any (tX a b c d) (tY a b c d) (tX a b i j) (tY a b i j) w
  rw [tX_push, tY_push] at h
  exact h

set_option maxRecDepth 100000 in
set_option maxHeartbeats 3200000 in
theorem ring_walk (a b c d i j : Int) (w : World) :
    Calls Try.prog 5 #[.agg #[.int .i64 (a), .int .i64 (b)], .agg #[.int .i64 (c), .int .i64 (d)], .agg #[.int .i64 (i), .int .i64 (j)]] w fun e w' => e = .returned (.bool true) ∧ Below w.heap.size w w' := by
  have eq := spin_eql
  have ne := spin_neq
  have gd := guard_at
  go_enter Try.func5, Try.ntmps5
  go_wp2_with ((go_at_call 10; refine (shown_any _).mono ?_; rintro e w1 ⟨rfl, hb⟩; have hS := keepABC hb (startABC w a b c d i j 23)))
  go_region_held3 (fun w' => w'.cell? ⟨w.heap.size, 0, none⟩ = some (.int .i64 a) ∧ w'.cell? ⟨w.heap.size, 1, none⟩ = some (.int .i64 b) ∧ w'.cell? ⟨w.heap.size + 1, 0, none⟩ = some (.int .i64 c) ∧ w'.cell? ⟨w.heap.size + 1, 1, none⟩ = some (.int .i64 d) ∧ w'.cell? ⟨w.heap.size + 1 + 1, 0, none⟩ = some (.int .i64 i) ∧ w'.cell? ⟨w.heap.size + 1 + 1, 1, none⟩ = some (.int .i64 j) ∧ Below w.heap.size w w')
    (first | exact keepABC hb (by assumption) | exact keepABC (Below.refl _ _).drew (by assumption))
    (first
      | (go_at_call 11; (with_reducible refine (turn_ba a b c d _).mono ?_); rintro e w' ⟨rfl, hb⟩; have hS := keepABC hb (by assumption))
      | (go_at_call 13; (with_reducible refine (push_ba a b c d _).mono ?_); rintro e w' ⟨rfl, hb⟩; have hS := keepABC hb (by assumption))
      | (go_at_call 11; (with_reducible refine (turn_any _ _ _ _ _).mono ?_); rintro e w' ⟨rfl, hb⟩; have hS := keepABC hb (by assumption))
      | (go_at_call 13; (with_reducible refine (push_any _ _ _ _ _).mono ?_); rintro e w' ⟨rfl, hb⟩; have hS := keepABC hb (by assumption))
      | (go_at_call 15; (with_reducible refine (right_turn a b c d _).mono ?_); rintro e w' ⟨rfl, hb⟩; have hS := keepABC hb (by assumption))
      | (go_at_call 15; (with_reducible refine (right_push a b c d _).mono ?_); rintro e w' ⟨rfl, hb⟩; have hS := keepABC hb (by assumption)))
  go_wp2_with fail
  go_region_held3 (fun w' => w'.cell? ⟨w.heap.size, 0, none⟩ = some (.int .i64 a) ∧ w'.cell? ⟨w.heap.size, 1, none⟩ = some (.int .i64 b) ∧ w'.cell? ⟨w.heap.size + 1, 0, none⟩ = some (.int .i64 c) ∧ w'.cell? ⟨w.heap.size + 1, 1, none⟩ = some (.int .i64 d) ∧ w'.cell? ⟨w.heap.size + 1 + 1, 0, none⟩ = some (.int .i64 i) ∧ w'.cell? ⟨w.heap.size + 1 + 1, 1, none⟩ = some (.int .i64 j) ∧ Below w.heap.size w w')
    (first | exact keepABC hb (by assumption) | exact keepABC (Below.refl _ _).drew (by assumption))
    (first
      | (go_at_call 11; (with_reducible refine (turn_a_bc a b c d i j _).mono ?_); rintro e w' ⟨rfl, hb⟩; have hS := keepABC hb (by assumption))
      | (go_at_call 13; (with_reducible refine (push_a_bc a b c d i j _).mono ?_); rintro e w' ⟨rfl, hb⟩; have hS := keepABC hb (by assumption))
      | (go_at_call 11; (with_reducible refine (turn_any _ _ _ _ _).mono ?_); rintro e w' ⟨rfl, hb⟩; have hS := keepABC hb (by assumption))
      | (go_at_call 13; (with_reducible refine (push_any _ _ _ _ _).mono ?_); rintro e w' ⟨rfl, hb⟩; have hS := keepABC hb (by assumption)))
  go_wp2_with fail
  go_region_held3 (fun w' => w'.cell? ⟨w.heap.size, 0, none⟩ = some (.int .i64 a) ∧ w'.cell? ⟨w.heap.size, 1, none⟩ = some (.int .i64 b) ∧ w'.cell? ⟨w.heap.size + 1, 0, none⟩ = some (.int .i64 c) ∧ w'.cell? ⟨w.heap.size + 1, 1, none⟩ = some (.int .i64 d) ∧ w'.cell? ⟨w.heap.size + 1 + 1, 0, none⟩ = some (.int .i64 i) ∧ w'.cell? ⟨w.heap.size + 1 + 1, 1, none⟩ = some (.int .i64 j) ∧ Below w.heap.size w w')
    (first | exact keepABC hb (by assumption) | exact keepABC (Below.refl _ _).drew (by assumption))
    (first
      | (go_at_call 13; (with_reducible refine (push_tt a b c d i j _).mono ?_); rintro e w' ⟨rfl, hb⟩; have hS := keepABC hb (by assumption))
      | (go_at_call 11; (with_reducible refine (turn_any _ _ _ _ _).mono ?_); rintro e w' ⟨rfl, hb⟩; have hS := keepABC hb (by assumption))
      | (go_at_call 13; (with_reducible refine (push_any _ _ _ _ _).mono ?_); rintro e w' ⟨rfl, hb⟩; have hS := keepABC hb (by assumption)))
  go_wp2
  go_ret
  exact ⟨rfl, hS.2.2.2.2.2.2⟩

theorem ring_contract (H : Type) (enc : TypeId × Value → H) (W : World) (base : Nat) (args : Array Value) (ds gs : List (DataW H)) (before : List MemPlace)
    (hval : ∀ (j : Nat) t v, Try.f5.params[j]? = some t → args[j]? = some v → Value.okWide Try.prog W .any base t v)
    (hW : DataW.Whole enc Try.prog Try.f5.params.toList Rows.spinRingSpec.vars false W args.toList ds gs before) :
    Calls Try.prog 5 args W fun e W' => ∃ v, e = .returned v ∧ Rows.spinRingSpec.post enc Try.prog Try.f5 false true false false W args v W' := by
  have hW' := hW
  have hlt : ∀ x ∈ before, x.block < W.heap.size := fun x hx => hW.lt x hx
  obtain ⟨p, q, hA0, hV, rfl, _, _⟩ := hW
  have hA : DataW.TrodAll enc Try.prog W 0 (fun _ => true) true Try.f5.params.toList args.toList ds p := hA0
  rw [Try.params5] at hA hval
  obtain ⟨v0, vs0, d0, ds0, p0, q0, hargs, rfl, rfl, h0, r0⟩ := trodAll_cons hA
  obtain ⟨v1, vs1, d1, ds1, p1, q1, rfl, rfl, rfl, h1, r1⟩ := trodAll_cons r0
  obtain ⟨v2, vs2, d2, ds2, p2, q2, rfl, rfl, rfl, h2, r2⟩ := trodAll_cons r1
  obtain ⟨rfl, rfl, rfl⟩ := trodAll_nil r2
  obtain rfl : args = #[v0, v1, v2] := by cases args; simp_all
  obtain ⟨rfl, rfl⟩ := trodVars_none hV
  clear hA0
  obtain ⟨x0, y0, rfl⟩ := open_spin (hval 0 23 v0 rfl rfl) h0
  obtain ⟨x1, y1, rfl⟩ := open_spin (hval 1 23 v1 rfl rfl) h1
  obtain ⟨x2, y2, rfl⟩ := open_spin (hval 2 23 v2 rfl rfl) h2
  refine (ring_walk x0 y0 x1 y1 x2 y2 W).mono fun e W' ⟨he, hb⟩ => ?_
  subst he
  exact ⟨_, rfl, law_post laid (by kernel_rfl) Try.underlying4 (by rw [Try.params5]; decide +kernel) rfl hW' ⟨rfl, rfl, rfl⟩ hb⟩

set_option maxRecDepth 100000 in
theorem ring_lifted (os : Os) (started : os.Started) (H : Type) (enc : TypeId × Value → H) :
    ReturnsInHanded {} Try.checked os 5 .any (Rows.spinRingSpec.pre6 enc Try.prog Try.f5 Rows.spinRingRow.domain false) (Rows.spinRingSpec.post enc Try.prog Try.f5 false true false false) := by
  refine returnsInHanded_of_change (C := Try.checked) own started (by kernel_rfl) Try.func5
    (ChangeSpec.witness6 (enc := enc) (C := Try.checked) false ⟨#[], #[.agg #[.int .i64 0, .int .i64 0], .agg #[.int .i64 0, .int .i64 0], .agg #[.int .i64 0, .int .i64 0]], []⟩ 8 (by kernel_rfl) (by kernel_rfl) (by kernel_rfl) (by kernel_rfl)) ?_
  intro W base args ds gs before hval hW _ _
  exact ring_contract H enc W base args ds gs before hval hW

/-- SpinRing is true for every input. -/
theorem ring_holds : Rows.SpinRingSaid :=
  OpenClaim.holds_of_wide 5 Try.f5 rfl rfl rfl rfl rfl rfl rfl ⟨rfl, rfl, rfl, rfl, rfl⟩ rfl rfl rfl rfl rfl (by kernel_rfl) Try.func5 (by kernel_rfl)
    (of_decide_eq_true (by kernel_rfl)) (by unfold Func.isWrapper; first | (rw [if_pos (by decide +kernel)]; kernel_rfl) | (rw [if_neg (by decide +kernel)]; exact ⟨rfl, rfl⟩))
    (fun os started H enc _ => ring_lifted os started H enc)
end Go.Proofs.Ytnplbehnlmlodaa
