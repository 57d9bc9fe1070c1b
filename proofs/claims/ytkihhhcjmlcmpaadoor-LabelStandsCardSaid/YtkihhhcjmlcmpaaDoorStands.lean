/-
  LabelStands: whatever three labels, less is an order of all labels, in which none stands ahead of one that flows to it.
-/
import Derived.Test.YtkihhhcjmlcmpaaDoorD
namespace Go.Proofs.YtkihhhcjmlcmpaaDoor
open Go.ChangeShapes Go.WideShapes Go.ChangeAt Go.RowKit

theorem less_from {w0 w : World} (a b : Nat) (ha : a < 65536) (hb : b < 65536) (hB : Below w0.heap.size w0 w) :
    Calls Tryd.prog 22 #[.int .u16 (a : Int), .int .u16 (b : Int)] w fun e w' => e = .returned (.bool (lessB a b)) ∧ Below w0.heap.size w0 w' :=
  (less_any a b w ha hb).mono fun _ _ ⟨h1, h2⟩ => ⟨h1, hB.trans (h2.mono hB.size)⟩

set_option maxHeartbeats 800000 in
theorem stands_walk (a b c : Int) (w : World) (ha : 0 ≤ a ∧ a ≤ 65535) (hb : 0 ≤ b ∧ b ≤ 65535) (hc : 0 ≤ c ∧ c ≤ 65535) (hm : MaxAt w) :
    Calls Tryd.prog 8 #[.int .u16 a, .int .u16 b, .int .u16 c] w fun e w' => e = .returned (.bool true) ∧ Below w.heap.size w w' := by
  obtain ⟨a, rfl⟩ := Int.eq_ofNat_of_zero_le ha.1
  obtain ⟨b, rfl⟩ := Int.eq_ofNat_of_zero_le hb.1
  obtain ⟨c, rfl⟩ := Int.eq_ofNat_of_zero_le hc.1
  have ha' : a < 65536 := by omega
  have hb' : b < 65536 := by omega
  have hc' : c < 65536 := by omega
  clear ha hb hc
  have H0 := Lib.hid (lessB_self a)
  by_cases e : a = b
  · subst e
    cases h2 : lessB a c
    all_goals
      have H2 := Lib.hid h2
      clear h2
      go_enter Tryd.func8, Tryd.ntmps8
      go_wp2_with (first
        | (go_at_call 12; refine (shown_any _ hm).mono ?_; rintro e w1 ⟨rfl, hB1⟩)
        | (go_at_call 22; refine (less_from (w0 := w) _ _ (by omega) (by omega) (by assumption)).mono ?_; rintro e w' ⟨rfl, hB'⟩; first | rw [H0.out] | rw [H2.out]))
      go_ret
      exact ⟨rfl, by assumption⟩
  · have Hn : Hid (lessB a b = true → lessB b a = true → False) := Lib.hid fun h h2 => by rw [lessB_asymm h] at h2; cases h2
    have Ht : Hid (lessB a b = false → lessB b a = false → False) := Lib.hid fun h h2 => e (lessB_total ha' hb' h h2)
    have Hx : Hid (lessB a b = true → lessB b c = true → lessB a c = false → False) := Lib.hid fun h h2 h3 => by rw [lessB_trans h h2] at h3; cases h3
    have Hf : Hid (flowB a b = true → lessB a b = false → False) := Lib.hid fun h h2 => by rw [lessB_flow ha' hb' e h] at h2; cases h2
    have heq : ((a : Int) == (b : Int)) = false := by rw [beq_eq_false_iff_ne]; omega
    have heq2 : ((a : Int) != (b : Int)) = true := by rw [bne_iff_ne]; omega
    clear e
    cases h1 : lessB a b <;> cases h2 : lessB b a <;> cases h3 : lessB b c <;> cases h4 : lessB a c <;> cases h5 : flowB a b
    all_goals first
      | exact (Hn.out h1 h2).elim
      | exact (Ht.out h1 h2).elim
      | exact (Hx.out h1 h3 h4).elim
      | exact (Hf.out h5 h1).elim
      | (have H1 := Lib.hid h1
         have H2 := Lib.hid h2
         have H3 := Lib.hid h3
         have H4 := Lib.hid h4
         have H5 := Lib.hid h5
         clear h1 h2 h3 h4 h5
         go_enter Tryd.func8, Tryd.ntmps8
         go_wp2_with (first
          | (go_at_call 12; refine (shown_any _ hm).mono ?_; rintro e w1 ⟨rfl, hB1⟩)
          | (go_at_call 16; refine (flows_any _ _ _ (by omega) (by omega)).mono ?_; rintro e w' ⟨rfl, rfl⟩; rw [H5.out])
          | (go_at_call 22; refine (less_from (w0 := w) _ _ (by omega) (by omega) (by assumption)).mono ?_; rintro e w' ⟨rfl, hB'⟩; first | rw [H0.out] | rw [H1.out] | rw [H2.out] | rw [H3.out] | rw [H4.out]))
         go_ret
         exact ⟨rfl, by assumption⟩)

theorem stands_contract (H : Type) (enc : TypeId × Value → H) (W : World) (base : Nat) (args : Array Value) (ds gs : List (DataW H)) (before : List MemPlace)
    (hval : ∀ (j : Nat) t v, Tryd.f8.params[j]? = some t → args[j]? = some v → Value.okWide Tryd.prog W .any base t v)
    (hW : DataW.Whole enc Tryd.prog Tryd.f8.params.toList Rows.labelStandsSpec.vars false W args.toList ds gs before) (hsh : W.ShapedOpen Tryd.prog) :
    Calls Tryd.prog 8 args W fun e W' => ∃ v, e = .returned v ∧ Rows.labelStandsSpec.post enc Tryd.prog Tryd.f8 false true false false W args v W' := by
  have hW' := hW
  have hlt : ∀ x ∈ before, x.block < W.heap.size := fun x hx => hW.lt x hx
  have hMax := maxAt hsh
  clear hsh
  obtain ⟨p, q, hA0, hV, rfl, _, _⟩ := hW
  have hA : DataW.TrodAll enc Tryd.prog W 0 (fun _ => true) true Tryd.f8.params.toList args.toList ds p := hA0
  rw [Tryd.params8] at hA hval
  obtain ⟨v0, vs0, d0, ds0, p0, q0, hargs, rfl, rfl, h0, r0⟩ := trodAll_cons hA
  obtain ⟨v1, vs1, d1, ds1, p1, q1, rfl, rfl, rfl, h1, r1⟩ := trodAll_cons r0
  obtain ⟨v2, vs2, d2, ds2, p2, q2, rfl, rfl, rfl, h2, r2⟩ := trodAll_cons r1
  obtain ⟨rfl, rfl, rfl⟩ := trodAll_nil r2
  obtain rfl : args = #[v0, v1, v2] := by cases args; simp_all
  obtain ⟨rfl, rfl⟩ := trodVars_none hV
  clear hA0
  obtain ⟨a0, rfl, rfl, rfl, wa0⟩ := open_int Tryd.underlying24 (hval 0 24 v0 rfl rfl) h0
  have bd0 := bounds_u16 wa0
  obtain ⟨a1, rfl, rfl, rfl, wa1⟩ := open_int Tryd.underlying24 (hval 1 24 v1 rfl rfl) h1
  have bd1 := bounds_u16 wa1
  obtain ⟨a2, rfl, rfl, rfl, wa2⟩ := open_int Tryd.underlying24 (hval 2 24 v2 rfl rfl) h2
  have bd2 := bounds_u16 wa2
  refine (stands_walk a0 a1 a2 W bd0 bd1 bd2 hMax).mono fun e W' ⟨he, hb⟩ => ?_
  subst he
  exact ⟨_, rfl, law_post laid (by kernel_rfl) Tryd.underlying4 (by rw [Tryd.params8]; decide +kernel) rfl hW' ⟨rfl, rfl, rfl⟩ hb⟩

theorem stands_reads (os : Os) {H : Type} (enc : TypeId × Value → H) : ∃ x, DataW.whole enc Tryd.prog ((laidWorld os).forCall (fun _ _ => 0) ⟨#[], #[.int .u16 0, .int .u16 0, .int .u16 0], []⟩).memory Tryd.f8.params.toList Rows.labelStandsSpec.vars false (#[.int .u16 0, .int .u16 0, .int .u16 0] : Array Value).toList 8 = some x :=
  Option.isSome_iff_exists.1 (by kernel_rfl)

set_option maxRecDepth 100000 in
theorem stands_lifted (os : Os) (started : os.Started) (H : Type) (enc : TypeId × Value → H) (F : Stop.Interp) :
    ReturnsInHanded {} Tryd.checked os 8 .any ((OpenSpec.ofChange Rows.labelStandsSpec).preRow enc Tryd.prog Tryd.f8 Rows.labelStandsRow.domain false Rows.labelStandsRow.laid) (((OpenSpec.ofChange Rows.labelStandsSpec).at F).post enc Tryd.prog Tryd.f8 false true false false) := by
  obtain ⟨x, hx⟩ := stands_reads os enc
  refine returnsInHanded_of_row (C := Tryd.checked) (s := OpenSpec.ofChange Rows.labelStandsSpec) own started (by kernel_rfl) Tryd.func8
    (witness_row_at (enc := enc) (C := Tryd.checked) false (laidWorld os) #[.int .u16 0, .int .u16 0, .int .u16 0] rfl (by kernel_rfl) (by kernel_rfl) (by kernel_rfl)
      (OpenSpec.preRow_of_cond 8 hx rfl (fun k hk => by cases hk) (by kernel_rfl) (laid_met os _))) ?_
  intro W base args ds gs before hval hW _ _ _ _ hsh _
  exact stands_contract H enc W base args ds gs before hval hW hsh

theorem stands_said : Rows.LabelStandsSaid :=
  OpenClaim.holds_of_cond 8 Tryd.f8 rfl rfl rfl rfl rfl rfl rfl ⟨rfl, rfl, rfl, rfl, rfl⟩ rfl rfl rfl rfl rfl (by kernel_rfl) Tryd.func8 (by kernel_rfl)
    (of_decide_eq_true (by kernel_rfl)) (by unfold Func.isWrapper; first | (rw [if_pos (by decide +kernel)]; kernel_rfl) | (rw [if_neg (by decide +kernel)]; exact ⟨rfl, rfl⟩))
    (fun os started H enc _ F => by rw [OpenClaim.pre_eq_preRow]; exact stands_lifted os started H enc F)

/-- LabelStands is true for every input; what its row lists is tied to the program's text. -/
theorem stands_holds : Rows.LabelStandsCardSaid :=
  Claim7.holds_tied_plain_at .later [] _ _ _ _ stands_said (fun _ h => by cases h) (by kernel_rfl) (fun _ h => by cases h) labelStands_row_tie rfl ⟨rfl, rfl⟩ (by kernel_rfl) rfl
    (plain_of (by kernel_rfl) Tryd.func8 no_looks (by kernel_rfl)) (by kernel_rfl)
end Go.Proofs.YtkihhhcjmlcmpaaDoor
