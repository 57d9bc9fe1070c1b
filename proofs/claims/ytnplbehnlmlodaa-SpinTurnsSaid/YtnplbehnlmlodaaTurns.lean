/-
  SpinTurns: whatever two whirls, product, sum, whether one is right and its bits are the document's.
-/
import Derived.Test.YtnplbehnlmlodaaC
namespace Go.Proofs.Ytnplbehnlmlodaa
open Go.ChangeShapes Go.WideShapes Go.ChangeAt Go.RowKit

theorem keepAB {w w1 w2 : World} {a b : Nat} {a0 a1 b0 b1 : Value} (hb : Below w1.heap.size w1 w2)
    (h : w1.cell? ⟨a, 0, none⟩ = some a0 ∧ w1.cell? ⟨a, 1, none⟩ = some a1 ∧ w1.cell? ⟨b, 0, none⟩ = some b0 ∧ w1.cell? ⟨b, 1, none⟩ = some b1 ∧ Below w.heap.size w w1) :
    w2.cell? ⟨a, 0, none⟩ = some a0 ∧ w2.cell? ⟨a, 1, none⟩ = some a1 ∧ w2.cell? ⟨b, 0, none⟩ = some b0 ∧ w2.cell? ⟨b, 1, none⟩ = some b1 ∧ Below w.heap.size w w2 :=
  ⟨keepC hb (lt_of h.1) h.1, keepC hb (lt_of h.2.1) h.2.1, keepC hb (lt_of h.2.2.1) h.2.2.1, keepC hb (lt_of h.2.2.2.1) h.2.2.2.1, h.2.2.2.2.trans (hb.mono h.2.2.2.2.size)⟩
theorem startAB (w : World) (a0 a1 b0 b1 : Value) (t : TypeId) :
    let W := ((w.alloc (.cells #[a0, a1] t)).alloc (.cells #[b0, b1] t)).drew
    W.cell? ⟨w.heap.size, 0, none⟩ = some a0 ∧ W.cell? ⟨w.heap.size, 1, none⟩ = some a1 ∧ W.cell? ⟨w.heap.size + 1, 0, none⟩ = some b0 ∧ W.cell? ⟨w.heap.size + 1, 1, none⟩ = some b1 ∧ Below w.heap.size w W := by
  have hb : Below (w.alloc (.cells #[a0, a1] t)).heap.size (w.alloc (.cells #[a0, a1] t)) ((w.alloc (.cells #[a0, a1] t)).alloc (.cells #[b0, b1] t)).drew := ((Below.refl _ _).alloc (Nat.le_refl _) _).drew
  have c := cell_new (w.alloc (.cells #[a0, a1] t)) #[b0, b1] t
  rw [size_alloc] at c
  exact ⟨keepC hb (by rw [size_alloc]; exact Nat.lt_succ_self _) (cell_new w #[a0, a1] t 0), keepC hb (by rw [size_alloc]; exact Nat.lt_succ_self _) (cell_new w #[a0, a1] t 1), c 0, c 1, (((Below.refl _ _).alloc (Nat.le_refl _) _).alloc (by simp) _).drew⟩

theorem right_at (x y : Int) (w : World) : Calls Try.prog 15 #[.agg #[.int .i64 x, .int .i64 y]] w fun e w' => e = .returned (.bool (x == res x && y == res y)) ∧ Below w.heap.size w w' := right_any x y w

set_option maxRecDepth 100000 in
set_option maxHeartbeats 1600000 in
theorem turns_walk (a b c d : Int) (w : World) :
    Calls Try.prog 3 #[.agg #[.int .i64 a, .int .i64 b], .agg #[.int .i64 c, .int .i64 d]] w fun e w' => e = .returned (.bool true) ∧ Below w.heap.size w w' := by
  have eq := spin_eql
  have gd := guard_at
  go_enter Try.func3, Try.ntmps3
  go_wp2
  go_region_held3 (fun w' => w'.cell? ⟨w.heap.size, 0, none⟩ = some (.int .i64 a) ∧ w'.cell? ⟨w.heap.size, 1, none⟩ = some (.int .i64 b) ∧ w'.cell? ⟨w.heap.size + 1, 0, none⟩ = some (.int .i64 c) ∧ w'.cell? ⟨w.heap.size + 1, 1, none⟩ = some (.int .i64 d) ∧ Below w.heap.size w w')
    (first | exact keepAB hb (by assumption) | exact startAB _ _ _ _ _ _)
    (first
      | (go_at_call 10; refine (shown_any _).mono ?_; rintro e w' ⟨rfl, hb⟩; have hB := (keepAB hb (by assumption)).2.2.2.2)
      | (go_at_call 11; refine (turn_any _ _ _ _ _).mono ?_; rintro e w' ⟨rfl, hb⟩; have hB := (keepAB hb (by assumption)).2.2.2.2)
      | (go_at_call 12; refine (rturn_any _ _ _ _ _).mono ?_; rintro e w' ⟨rfl, hb⟩; have hB := (keepAB hb (by assumption)).2.2.2.2)
      | (go_at_call 13; refine (push_any _ _ _ _ _).mono ?_; rintro e w' ⟨rfl, hb⟩; have hB := (keepAB hb (by assumption)).2.2.2.2)
      | (go_at_call 14; refine (rpush_any _ _ _ _ _).mono ?_; rintro e w' ⟨rfl, hb⟩; have hB := (keepAB hb (by assumption)).2.2.2.2)
      | (go_at_call 15; refine (right_at _ _ _).mono ?_; rintro e w' ⟨rfl, hb⟩; have hB := (keepAB hb (by assumption)).2.2.2.2)
      | (go_at_call 16; refine (norm_any _ _ _).mono ?_; rintro e w' ⟨rfl, hb⟩; have hB := (keepAB hb (by assumption)).2.2.2.2)
      | (go_at_call 17; refine (bits_any _ _ _).mono ?_; rintro e w' ⟨rfl, hb⟩; have hB := (keepAB hb (by assumption)).2.2.2.2)
      | (go_at_call 18; refine (rbits_any _ _ _).mono ?_; rintro e w' ⟨rfl, hb⟩; have hB := (keepAB hb (by assumption)).2.2.2.2))
  go_wp2
  go_ret
  exact ⟨rfl, hB⟩

theorem turns_contract (H : Type) (enc : TypeId × Value → H) (W : World) (base : Nat) (args : Array Value) (ds gs : List (DataW H)) (before : List MemPlace)
    (hval : ∀ (j : Nat) t v, Try.f3.params[j]? = some t → args[j]? = some v → Value.okWide Try.prog W .any base t v)
    (hW : DataW.Whole enc Try.prog Try.f3.params.toList Rows.spinTurnsSpec.vars false W args.toList ds gs before) :
    Calls Try.prog 3 args W fun e W' => ∃ v, e = .returned v ∧ Rows.spinTurnsSpec.post enc Try.prog Try.f3 false true false false W args v W' := by
  have hW' := hW
  have hlt : ∀ x ∈ before, x.block < W.heap.size := fun x hx => hW.lt x hx
  obtain ⟨p, q, hA0, hV, rfl, _, _⟩ := hW
  have hA : DataW.TrodAll enc Try.prog W 0 (fun _ => true) true Try.f3.params.toList args.toList ds p := hA0
  rw [Try.params3] at hA hval
  obtain ⟨v0, vs0, d0, ds0, p0, q0, hargs, rfl, rfl, h0, r0⟩ := trodAll_cons hA
  obtain ⟨v1, vs1, d1, ds1, p1, q1, rfl, rfl, rfl, h1, r1⟩ := trodAll_cons r0
  obtain ⟨rfl, rfl, rfl⟩ := trodAll_nil r1
  obtain rfl : args = #[v0, v1] := by cases args; simp_all
  obtain ⟨rfl, rfl⟩ := trodVars_none hV
  clear hA0
  obtain ⟨x0, y0, rfl⟩ := open_spin (hval 0 23 v0 rfl rfl) h0
  obtain ⟨x1, y1, rfl⟩ := open_spin (hval 1 23 v1 rfl rfl) h1
  refine (turns_walk x0 y0 x1 y1 W).mono fun e W' ⟨he, hb⟩ => ?_
  subst he
  exact ⟨_, rfl, law_post laid (by kernel_rfl) Try.underlying4 (by rw [Try.params3]; decide +kernel) rfl hW' ⟨rfl, rfl, rfl⟩ hb⟩

set_option maxRecDepth 100000 in
theorem turns_lifted (os : Os) (started : os.Started) (H : Type) (enc : TypeId × Value → H) :
    ReturnsInHanded {} Try.checked os 3 .any (Rows.spinTurnsSpec.pre6 enc Try.prog Try.f3 Rows.spinTurnsRow.domain false) (Rows.spinTurnsSpec.post enc Try.prog Try.f3 false true false false) := by
  refine returnsInHanded_of_change (C := Try.checked) own started (by kernel_rfl) Try.func3
    (ChangeSpec.witness6 (enc := enc) (C := Try.checked) false ⟨#[], #[.agg #[.int .i64 0, .int .i64 0], .agg #[.int .i64 0, .int .i64 0]], []⟩ 8 (by kernel_rfl) (by kernel_rfl) (by kernel_rfl) (by kernel_rfl)) ?_
  intro W base args ds gs before hval hW _ _
  exact turns_contract H enc W base args ds gs before hval hW

/-- SpinTurns is true for every input. -/
theorem turns_holds : Rows.SpinTurnsSaid :=
  OpenClaim.holds_of_wide 3 Try.f3 rfl rfl rfl rfl rfl rfl rfl ⟨rfl, rfl, rfl, rfl, rfl⟩ rfl rfl rfl rfl rfl (by kernel_rfl) Try.func3 (by kernel_rfl)
    (of_decide_eq_true (by kernel_rfl)) (by unfold Func.isWrapper; first | (rw [if_pos (by decide +kernel)]; kernel_rfl) | (rw [if_neg (by decide +kernel)]; exact ⟨rfl, rfl⟩))
    (fun os started H enc _ => turns_lifted os started H enc)
end Go.Proofs.Ytnplbehnlmlodaa
