/-
  LabelOrder: whatever three labels, to flow is an order.
-/
import Derived.Test.YtkihhhcjmlcmpaaDoorD
namespace Go.Proofs.YtkihhhcjmlcmpaaDoor
open Go.ChangeShapes Go.WideShapes Go.ChangeAt Go.RowKit

theorem flowB_self (a : Nat) : flowB a a = true := by simp [flowB]
theorem flowB_zero (a : Nat) : flowB 0 a = true := by simp [flowB]
theorem flowB_full {a : Nat} (ha : a < 65536) : flowB a 65535 = true := by
  unfold flowB
  rw [nat_mask16, Nat.mod_eq_of_lt ha]
  simp
theorem flowB_trans {a b c : Nat} (h1 : flowB a b = true) (h2 : flowB b c = true) : flowB a c = true :=
  flowB_iff.2 fun k hk => flowB_iff.1 h2 k (flowB_iff.1 h1 k hk)
theorem flowB_both {a b : Nat} (h1 : flowB a b = true) (h2 : flowB b a = true) : a = b := by
  apply Nat.eq_of_testBit_eq
  intro k
  rw [Bool.eq_iff_iff]
  exact ⟨flowB_iff.1 h1 k, flowB_iff.1 h2 k⟩

theorem flows_zero (a : Nat) (w : World) (ha : a < 65536) : Calls Tryd.prog 16 #[.int .u16 0, .int .u16 (a : Int)] w fun e w' => e = .returned (.bool true) ∧ w = w' := by
  have h := flows_any 0 a w (by omega) ha
  rw [flowB_zero] at h
  exact h
theorem flows_full (a : Nat) (w : World) (ha : a < 65536) : Calls Tryd.prog 16 #[.int .u16 (a : Int), .int .u16 65535] w fun e w' => e = .returned (.bool true) ∧ w = w' := by
  have h := flows_any a 65535 w ha (by omega)
  rw [flowB_full ha] at h
  exact h

set_option maxHeartbeats 800000 in
theorem order_walk (a b c : Int) (w : World) (ha : 0 ≤ a ∧ a ≤ 65535) (hb : 0 ≤ b ∧ b ≤ 65535) (hc : 0 ≤ c ∧ c ≤ 65535) (hm : MaxAt w) :
    Calls Tryd.prog 6 #[.int .u16 a, .int .u16 b, .int .u16 c] w fun e w' => e = .returned (.bool true) ∧ Below w.heap.size w w' := by
  obtain ⟨a, rfl⟩ := Int.eq_ofNat_of_zero_le ha.1
  obtain ⟨b, rfl⟩ := Int.eq_ofNat_of_zero_le hb.1
  obtain ⟨c, rfl⟩ := Int.eq_ofNat_of_zero_le hc.1
  have ha' : a < 65536 := by omega
  have hb' : b < 65536 := by omega
  have hc' : c < 65536 := by omega
  clear ha hb hc
  have H0 := Lib.hid (flowB_self a)
  have Ht : Hid (flowB a b = true → flowB b c = true → flowB a c = true) := Lib.hid flowB_trans
  by_cases e : a = b
  · subst e
    cases h2 : flowB a c
    all_goals
      have H2 := Lib.hid h2
      clear h2
      go_enter Tryd.func6, Tryd.ntmps6
      go_wp2_with (first
        | (go_at_call 12; refine (shown_any _ hm).mono ?_; rintro e w1 ⟨rfl, hb1⟩)
        | (go_at_call 16; (with_reducible refine (flows_zero _ _ ha').mono ?_); rintro e w' ⟨rfl, rfl⟩)
        | (go_at_call 16; (with_reducible refine (flows_full _ _ ha').mono ?_); rintro e w' ⟨rfl, rfl⟩)
        | (go_at_call 16; refine (flows_any _ _ _ (by omega) (by omega)).mono ?_; rintro e w' ⟨rfl, rfl⟩; first | rw [H0.out] | rw [H2.out]))
      go_ret
      exact ⟨rfl, hb1⟩
  · have Hn : Hid (flowB a b = true → flowB b a = true → False) := Lib.hid fun h h2 => e (flowB_both h h2)
    have heq : ((a : Int) == (b : Int)) = false := by rw [beq_eq_false_iff_ne]; omega
    clear e
    cases h1 : flowB a b <;> cases h2 : flowB b c <;> cases h3 : flowB a c <;> cases h4 : flowB b a
    all_goals first
      | exact (Hn.out h1 h4).elim
      | (have := Ht.out h1 h2; rw [h3] at this; exact Bool.noConfusion this)
      | (have H1 := Lib.hid h1
         have H2 := Lib.hid h2
         have H3 := Lib.hid h3
         have H4 := Lib.hid h4
         clear h1 h2 h3 h4
         go_enter Tryd.func6, Tryd.ntmps6
         go_wp2_with (first
          | (go_at_call 12; refine (shown_any _ hm).mono ?_; rintro e w1 ⟨rfl, hb1⟩)
          | (go_at_call 16; (with_reducible refine (flows_zero _ _ ha').mono ?_); rintro e w' ⟨rfl, rfl⟩)
          | (go_at_call 16; (with_reducible refine (flows_full _ _ ha').mono ?_); rintro e w' ⟨rfl, rfl⟩)
          | (go_at_call 16; refine (flows_any _ _ _ (by omega) (by omega)).mono ?_; rintro e w' ⟨rfl, rfl⟩; first | rw [H0.out] | rw [H1.out] | rw [H2.out] | rw [H3.out] | rw [H4.out]))
         go_ret
         exact ⟨rfl, hb1⟩)

theorem order_contract (H : Type) (enc : TypeId × Value → H) (W : World) (base : Nat) (args : Array Value) (ds gs : List (DataW H)) (before : List MemPlace)
    (hval : ∀ (j : Nat) t v, Tryd.f6.params[j]? = some t → args[j]? = some v → Value.okWide Tryd.prog W .any base t v)
    (hW : DataW.Whole enc Tryd.prog Tryd.f6.params.toList Rows.labelOrderSpec.vars false W args.toList ds gs before) (hsh : W.ShapedOpen Tryd.prog) :
    Calls Tryd.prog 6 args W fun e W' => ∃ v, e = .returned v ∧ Rows.labelOrderSpec.post enc Tryd.prog Tryd.f6 false true false false W args v W' := by
  have hW' := hW
  have hlt : ∀ x ∈ before, x.block < W.heap.size := fun x hx => hW.lt x hx
  have hMax := maxAt hsh
  clear hsh
  obtain ⟨p, q, hA0, hV, rfl, _, _⟩ := hW
  have hA : DataW.TrodAll enc Tryd.prog W 0 (fun _ => true) true Tryd.f6.params.toList args.toList ds p := hA0
  rw [Tryd.params6] at hA hval
  obtain ⟨v0, vs0, d0, ds0, p0, q0, hargs, rfl, rfl, h0, r0⟩ := trodAll_cons hA
  obtain ⟨v1, vs1, d1, ds1, p1, q1, rfl, rfl, rfl, h1, r1⟩ := trodAll_cons r0
  obtain ⟨v2, vs2, d2, ds2, p2, q2, rfl, rfl, rfl, h2, r2⟩ := trodAll_cons r1
  obtain ⟨rfl, rfl, rfl⟩ := trodAll_nil r2
  obtain rfl : args = #[v0, v1, v2] := by cases args; simp_all
  obtain ⟨rfl, rfl⟩ := trodVars_none hV
  clear hA0
  obtain ⟨a0, rfl, rfl, rfl, wa0⟩ := open_int Tryd.underlying24 (hval 0 24 v0 rfl rfl) h0
  have bd0 := bounds_u16 wa0
  obtain ⟨a1, rfl, rfl, rfl, wa1⟩ := open_int Tryd.underlying24 (hval 1 24 v1 rfl rfl) h1
  have bd1 := bounds_u16 wa1
  obtain ⟨a2, rfl, rfl, rfl, wa2⟩ := open_int Tryd.underlying24 (hval 2 24 v2 rfl rfl) h2
  have bd2 := bounds_u16 wa2
  refine (order_walk a0 a1 a2 W bd0 bd1 bd2 hMax).mono fun e W' ⟨he, hb⟩ => ?_
  subst he
  exact ⟨_, rfl, law_post laid (by kernel_rfl) Tryd.underlying4 (by rw [Tryd.params6]; decide +kernel) rfl hW' ⟨rfl, rfl, rfl⟩ hb⟩

theorem order_reads (os : Os) {H : Type} (enc : TypeId × Value → H) : ∃ x, DataW.whole enc Tryd.prog ((laidWorld os).forCall (fun _ _ => 0) ⟨#[], #[.int .u16 0, .int .u16 0, .int .u16 0], []⟩).memory Tryd.f6.params.toList Rows.labelOrderSpec.vars false (#[.int .u16 0, .int .u16 0, .int .u16 0] : Array Value).toList 8 = some x :=
  Option.isSome_iff_exists.1 (by kernel_rfl)

set_option maxRecDepth 100000 in
theorem order_lifted (os : Os) (started : os.Started) (H : Type) (enc : TypeId × Value → H) (F : Stop.Interp) :
    ReturnsInHanded {} Tryd.checked os 6 .any ((OpenSpec.ofChange Rows.labelOrderSpec).preRow enc Tryd.prog Tryd.f6 Rows.labelOrderRow.domain false Rows.labelOrderRow.laid) (((OpenSpec.ofChange Rows.labelOrderSpec).at F).post enc Tryd.prog Tryd.f6 false true false false) := by
  obtain ⟨x, hx⟩ := order_reads os enc
  refine returnsInHanded_of_row (C := Tryd.checked) (s := OpenSpec.ofChange Rows.labelOrderSpec) own started (by kernel_rfl) Tryd.func6
    (witness_row_at (enc := enc) (C := Tryd.checked) false (laidWorld os) #[.int .u16 0, .int .u16 0, .int .u16 0] rfl (by kernel_rfl) (by kernel_rfl) (by kernel_rfl)
      (OpenSpec.preRow_of_cond 8 hx rfl (fun k hk => by cases hk) (by kernel_rfl) (laid_met os _))) ?_
  intro W base args ds gs before hval hW _ _ _ _ hsh _
  exact order_contract H enc W base args ds gs before hval hW hsh

theorem order_said : Rows.LabelOrderSaid :=
  OpenClaim.holds_of_cond 6 Tryd.f6 rfl rfl rfl rfl rfl rfl rfl ⟨rfl, rfl, rfl, rfl, rfl⟩ rfl rfl rfl rfl rfl (by kernel_rfl) Tryd.func6 (by kernel_rfl)
    (of_decide_eq_true (by kernel_rfl)) (by unfold Func.isWrapper; first | (rw [if_pos (by decide +kernel)]; kernel_rfl) | (rw [if_neg (by decide +kernel)]; exact ⟨rfl, rfl⟩))
    (fun os started H enc _ F => by rw [OpenClaim.pre_eq_preRow]; exact order_lifted os started H enc F)

/-- LabelOrder is true for every input; what its row lists is tied to the program's text. -/
theorem order_holds : Rows.LabelOrderCardSaid :=
  Claim7.holds_tied_plain_at .later [] _ _ _ _ order_said (fun _ h => by cases h) (by kernel_rfl) (fun _ h => by cases h) labelOrder_row_tie rfl ⟨rfl, rfl⟩ (by kernel_rfl) rfl
    (plain_of (by kernel_rfl) Tryd.func6 no_looks (by kernel_rfl)) (by kernel_rfl)
end Go.Proofs.YtkihhhcjmlcmpaaDoor
