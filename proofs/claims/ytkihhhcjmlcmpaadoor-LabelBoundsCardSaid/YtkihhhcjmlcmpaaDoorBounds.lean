/-
  LabelBounds: whatever three labels, two labels flow to their join, and it to all to which both flow; their meet likewise.
-/
import Derived.Test.YtkihhhcjmlcmpaaDoorD
namespace Go.Proofs.YtkihhhcjmlcmpaaDoor
open Go.ChangeShapes Go.WideShapes Go.ChangeAt Go.RowKit

theorem flow_join (a b c : Nat) : flowB (a ||| b) c = (flowB a c && flowB b c) := by
  rw [Bool.eq_iff_iff, Bool.and_eq_true, flowB_iff, flowB_iff, flowB_iff]
  constructor
  · intro h
    exact ⟨fun k hk => h k (by rw [Nat.testBit_or, hk]; rfl), fun k hk => h k (by rw [Nat.testBit_or, hk, Bool.or_true])⟩
  · rintro ⟨h1, h2⟩ k hk
    rw [Nat.testBit_or, Bool.or_eq_true] at hk
    exact hk.elim (h1 k) (h2 k)
theorem flow_meet (a b c : Nat) : flowB c (a &&& b) = (flowB c a && flowB c b) := by
  rw [Bool.eq_iff_iff, Bool.and_eq_true, flowB_iff, flowB_iff, flowB_iff]
  constructor
  · intro h
    constructor
    · intro k hk
      have := h k hk
      rw [Nat.testBit_and, Bool.and_eq_true] at this
      exact this.1
    · intro k hk
      have := h k hk
      rw [Nat.testBit_and, Bool.and_eq_true] at this
      exact this.2
  · rintro ⟨h1, h2⟩ k hk
    rw [Nat.testBit_and, h1 k hk, h2 k hk]; rfl
theorem flow_left (a b : Nat) : flowB a (a ||| b) = true := flowB_iff.2 fun k hk => by rw [Nat.testBit_or, hk]; rfl
theorem flow_right (a b : Nat) : flowB b (a ||| b) = true := flowB_iff.2 fun k hk => by rw [Nat.testBit_or, hk, Bool.or_true]
theorem flow_meet_left (a b : Nat) : flowB (a &&& b) a = true := flowB_iff.2 fun k hk => by rw [Nat.testBit_and, Bool.and_eq_true] at hk; exact hk.1
theorem flow_meet_right (a b : Nat) : flowB (a &&& b) b = true := flowB_iff.2 fun k hk => by rw [Nat.testBit_and, Bool.and_eq_true] at hk; exact hk.2
theorem absorb1 (a b : Nat) : a &&& (a ||| b) = a := by
  apply Nat.eq_of_testBit_eq
  intro k
  rw [Nat.testBit_and, Nat.testBit_or]
  cases a.testBit k <;> cases b.testBit k <;> rfl
theorem absorb2 (a b : Nat) : a ||| (a &&& b) = a := by
  apply Nat.eq_of_testBit_eq
  intro k
  rw [Nat.testBit_or, Nat.testBit_and]
  cases a.testBit k <;> cases b.testBit k <;> rfl

set_option maxHeartbeats 800000 in
theorem bounds_walk (a b c : Int) (w : World) (ha : 0 ≤ a ∧ a ≤ 65535) (hb : 0 ≤ b ∧ b ≤ 65535) (hc : 0 ≤ c ∧ c ≤ 65535) (hm : MaxAt w) :
    Calls Tryd.prog 7 #[.int .u16 a, .int .u16 b, .int .u16 c] w fun e w' => e = .returned (.bool true) ∧ Below w.heap.size w w' := by
  obtain ⟨a, rfl⟩ := Int.eq_ofNat_of_zero_le ha.1
  obtain ⟨b, rfl⟩ := Int.eq_ofNat_of_zero_le hb.1
  obtain ⟨c, rfl⟩ := Int.eq_ofNat_of_zero_le hc.1
  have ha' : a < 65536 := by omega
  have hb' : b < 65536 := by omega
  have hc' : c < 65536 := by omega
  clear ha hb hc
  have hJ := fun w => join_any a b w ha' hb'
  have hM := fun w => meet_any a b w ha' hb'
  have hj' : a ||| b < 65536 := Nat.or_lt_two_pow (n := 16) ha' hb'
  have hm' : a &&& b < 65536 := Nat.lt_of_le_of_lt Nat.and_le_left ha'
  have hJ2 := fun w => join_any a (a &&& b) w ha' hm'
  have hM2 := fun w => meet_any a (a ||| b) w ha' hj'
  rw [absorb2] at hJ2
  rw [absorb1] at hM2
  have h1 := flow_left a b
  have h2 := flow_right a b
  have h3 := flow_meet_left a b
  have h4 := flow_meet_right a b
  have h5 := flow_join a b c
  have h6 := flow_meet a b c
  generalize a ||| b = j at *
  generalize a &&& b = m at *
  have HJ := Lib.hid hJ
  have HM := Lib.hid hM
  have HJ2 := Lib.hid hJ2
  have HM2 := Lib.hid hM2
  have H1 := Lib.hid h1
  have H2 := Lib.hid h2
  have H3 := Lib.hid h3
  have H4 := Lib.hid h4
  clear hJ hM hJ2 hM2 h1 h2 h3 h4
  cases k1 : flowB a c <;> cases k2 : flowB b c <;> cases k3 : flowB c a <;> cases k4 : flowB c b
  all_goals
    rw [k1, k2] at h5
    rw [k3, k4] at h6
    have K1 := Lib.hid k1
    have K2 := Lib.hid k2
    have K3 := Lib.hid k3
    have K4 := Lib.hid k4
    have K5 := Lib.hid h5
    have K6 := Lib.hid h6
    clear k1 k2 k3 k4 h5 h6
    go_enter Tryd.func7, Tryd.ntmps7
    go_wp2_with (first
      | (go_at_call 12; refine (shown_any _ hm).mono ?_; rintro e w1 ⟨rfl, hb1⟩)
      | (go_at_call 18; (with_reducible refine (HJ.out _).mono ?_); rintro e w' ⟨rfl, rfl⟩)
      | (go_at_call 18; (with_reducible refine (HJ2.out _).mono ?_); rintro e w' ⟨rfl, rfl⟩)
      | (go_at_call 20; (with_reducible refine (HM.out _).mono ?_); rintro e w' ⟨rfl, rfl⟩)
      | (go_at_call 20; (with_reducible refine (HM2.out _).mono ?_); rintro e w' ⟨rfl, rfl⟩)
      | (go_at_call 16; refine (flows_any _ _ _ (by omega) (by omega)).mono ?_; rintro e w' ⟨rfl, rfl⟩; first | rw [H1.out] | rw [H2.out] | rw [H3.out] | rw [H4.out] | rw [K1.out] | rw [K2.out] | rw [K3.out] | rw [K4.out] | rw [K5.out] | rw [K6.out]))
    go_ret
    exact ⟨rfl, hb1⟩

theorem bounds_contract (H : Type) (enc : TypeId × Value → H) (W : World) (base : Nat) (args : Array Value) (ds gs : List (DataW H)) (before : List MemPlace)
    (hval : ∀ (j : Nat) t v, Tryd.f7.params[j]? = some t → args[j]? = some v → Value.okWide Tryd.prog W .any base t v)
    (hW : DataW.Whole enc Tryd.prog Tryd.f7.params.toList Rows.labelBoundsSpec.vars false W args.toList ds gs before) (hsh : W.ShapedOpen Tryd.prog) :
    Calls Tryd.prog 7 args W fun e W' => ∃ v, e = .returned v ∧ Rows.labelBoundsSpec.post enc Tryd.prog Tryd.f7 false true false false W args v W' := by
  have hW' := hW
  have hlt : ∀ x ∈ before, x.block < W.heap.size := fun x hx => hW.lt x hx
  have hMax := maxAt hsh
  clear hsh
  obtain ⟨p, q, hA0, hV, rfl, _, _⟩ := hW
  have hA : DataW.TrodAll enc Tryd.prog W 0 (fun _ => true) true Tryd.f7.params.toList args.toList ds p := hA0
  rw [Tryd.params7] at hA hval
  obtain ⟨v0, vs0, d0, ds0, p0, q0, hargs, rfl, rfl, h0, r0⟩ := trodAll_cons hA
  obtain ⟨v1, vs1, d1, ds1, p1, q1, rfl, rfl, rfl, h1, r1⟩ := trodAll_cons r0
  obtain ⟨v2, vs2, d2, ds2, p2, q2, rfl, rfl, rfl, h2, r2⟩ := trodAll_cons r1
  obtain ⟨rfl, rfl, rfl⟩ := trodAll_nil r2
  obtain rfl : args = #[v0, v1, v2] := by cases args; simp_all
  obtain ⟨rfl, rfl⟩ := trodVars_none hV
  clear hA0
  obtain ⟨a0, rfl, rfl, rfl, wa0⟩ := open_int Tryd.underlying24 (hval 0 24 v0 rfl rfl) h0
  have bd0 := bounds_u16 wa0
  obtain ⟨a1, rfl, rfl, rfl, wa1⟩ := open_int Tryd.underlying24 (hval 1 24 v1 rfl rfl) h1
  have bd1 := bounds_u16 wa1
  obtain ⟨a2, rfl, rfl, rfl, wa2⟩ := open_int Tryd.underlying24 (hval 2 24 v2 rfl rfl) h2
  have bd2 := bounds_u16 wa2
  refine (bounds_walk a0 a1 a2 W bd0 bd1 bd2 hMax).mono fun e W' ⟨he, hb⟩ => ?_
  subst he
  exact ⟨_, rfl, law_post laid (by kernel_rfl) Tryd.underlying4 (by rw [Tryd.params7]; decide +kernel) rfl hW' ⟨rfl, rfl, rfl⟩ hb⟩

theorem bounds_reads (os : Os) {H : Type} (enc : TypeId × Value → H) : ∃ x, DataW.whole enc Tryd.prog ((laidWorld os).forCall (fun _ _ => 0) ⟨#[], #[.int .u16 0, .int .u16 0, .int .u16 0], []⟩).memory Tryd.f7.params.toList Rows.labelBoundsSpec.vars false (#[.int .u16 0, .int .u16 0, .int .u16 0] : Array Value).toList 8 = some x :=
  Option.isSome_iff_exists.1 (by kernel_rfl)

set_option maxRecDepth 100000 in
theorem bounds_lifted (os : Os) (started : os.Started) (H : Type) (enc : TypeId × Value → H) (F : Stop.Interp) :
    ReturnsInHanded {} Tryd.checked os 7 .any ((OpenSpec.ofChange Rows.labelBoundsSpec).preRow enc Tryd.prog Tryd.f7 Rows.labelBoundsRow.domain false Rows.labelBoundsRow.laid) (((OpenSpec.ofChange Rows.labelBoundsSpec).at F).post enc Tryd.prog Tryd.f7 false true false false) := by
  obtain ⟨x, hx⟩ := bounds_reads os enc
  refine returnsInHanded_of_row (C := Tryd.checked) (s := OpenSpec.ofChange Rows.labelBoundsSpec) own started (by kernel_rfl) Tryd.func7
    (witness_row_at (enc := enc) (C := Tryd.checked) false (laidWorld os) #[.int .u16 0, .int .u16 0, .int .u16 0] rfl (by kernel_rfl) (by kernel_rfl) (by kernel_rfl)
      (OpenSpec.preRow_of_cond 8 hx rfl (fun k hk => by cases hk) (by kernel_rfl) (laid_met os _))) ?_
  intro W base args ds gs before hval hW _ _ _ _ hsh _
  exact bounds_contract H enc W base args ds gs before hval hW hsh

theorem bounds_said : Rows.LabelBoundsSaid :=
  OpenClaim.holds_of_cond 7 Tryd.f7 rfl rfl rfl rfl rfl rfl rfl ⟨rfl, rfl, rfl, rfl, rfl⟩ rfl rfl rfl rfl rfl (by kernel_rfl) Tryd.func7 (by kernel_rfl)
    (of_decide_eq_true (by kernel_rfl)) (by unfold Func.isWrapper; first | (rw [if_pos (by decide +kernel)]; kernel_rfl) | (rw [if_neg (by decide +kernel)]; exact ⟨rfl, rfl⟩))
    (fun os started H enc _ F => by rw [OpenClaim.pre_eq_preRow]; exact bounds_lifted os started H enc F)

/-- LabelBounds is true for every input; what its row lists is tied to the program's text. -/
theorem bounds_holds : Rows.LabelBoundsCardSaid :=
  Claim7.holds_tied_plain_at .later [] _ _ _ _ bounds_said (fun _ h => by cases h) (by kernel_rfl) (fun _ h => by cases h) labelBounds_row_tie rfl ⟨rfl, rfl⟩ (by kernel_rfl) rfl
    (plain_of (by kernel_rfl) Tryd.func7 no_looks (by kernel_rfl)) (by kernel_rfl)
end Go.Proofs.YtkihhhcjmlcmpaaDoor
