/-
  FieldTakes: whatever the size and the bytes, Take's numbers and error are the document's.
-/
import Derived.Test.YtklhikekjfankaaF
namespace Go.Proofs.Ytklhikekjfankaa
open Go.ChangeShapes Go.WideShapes Go.ChangeAt Go.RowKit

theorem below_drewN' {B : Nat} {a w : World} (h : Below B a w) (n : Nat) : Below B a (w.drewN n) := ⟨h.os, h.tape, h.output, h.size, h.block⟩

/-- Where both refuse. -/
theorem takes_no (A : Option Addr) (n c : Nat) (size e0 : Int) (w : World) (hc : n ≤ c) (hm : n ≤ 9223372036854775807)
    (h1 : ∀ W : World, Calls Try.prog 18 #[.int .i64 size, .slice A (min n 5000) c] W fun e w' => e = .returned (.tuple #[.slice none 0 0, .int .i64 e0]) ∧ W = w')
    (h2 : ∀ W : World, Calls Try.prog 19 #[.int .i64 size, .slice A (min n 5000) c] W fun e w' => e = .returned (.tuple #[.slice none 0 0, .int .i64 e0]) ∧ W = w') :
    Calls Try.prog 5 #[.int .i64 size, .slice A n c] w fun e w' => e = .returned (.bool true) ∧ Below w.heap.size w w' := by
  have H1 := Lib.hid h1
  have H2 := Lib.hid h2
  clear h1 h2
  go_enter Try.func5, Try.ntmps5
  go_wp2_with (first
    | (go_at_call 11; refine (few_any _ _ _ _ hc hm).mono ?_; rintro e w' ⟨rfl, rfl⟩)
    | (go_at_call 18; refine (H1.out _).mono ?_; rintro e w' ⟨rfl, rfl⟩)
    | (go_at_call 19; refine (H2.out _).mono ?_; rintro e w' ⟨rfl, rfl⟩)
    | (go_at_call 20; refine (same_any [] none none 0 0 0 0 0 _ rfl (Nat.zero_le _) (.inl rfl) (.inl rfl)).mono ?_; rintro e w2 ⟨rfl, d, rfl⟩)
    | (go_at_call 10; refine (shown_any _).mono ?_; rintro e w1 ⟨rfl, hb⟩))
  go_ret
  exact ⟨rfl, below_drewN' hb d⟩

set_option maxHeartbeats 400000 in
theorem takes_ok (l : List UInt8) (A : Option Addr) (n c m size : Nat) (w : World) (hn : l.length = n) (hr : Rd w w.heap.size A (bytesV l)) (hc : n ≤ c) (hm : n ≤ 9223372036854775807)
    (h1 : 1 ≤ size) (h8 : size ≤ 8) (hd : min n 5000 = m * size) (h4 : min n 5000 ≤ 4096) :
    Calls Try.prog 5 #[.int .i64 size, .slice A n c] w fun e w' => e = .returned (.bool true) ∧ Below w.heap.size w w' := by
  have H := Lib.hid (few_len l n hn)
  have hr5 := hr.take 5000
  rw [← bytesV_take] at hr5
  obtain ⟨k, hk⟩ : ∃ k, k = l.take 5000 := ⟨_, rfl⟩
  rw [← hk] at H hr5
  have few := fun w => few_any A n c w hc hm
  obtain ⟨z, hz⟩ : ∃ z, z = min n 5000 := ⟨_, rfl⟩
  have hzc : z ≤ c := by omega
  rw [← hz] at H hd h4 few
  have Few := Lib.hid few
  have Hd := Lib.hid hd
  have hT : (takel size k).length = m := by rw [length_takel, H.out, hd]; exact Nat.mul_div_cancel _ (by omega)
  have HT := Lib.hid hT
  have hm4 : m ≤ 4096 := Nat.le_trans (Nat.le_mul_of_pos_right m (by omega)) (hd ▸ h4)
  clear hn hr hk hd few hz hT
  go_enter Try.func5, Try.ntmps5
  go_wp2_with (first
    | (go_at_call 11; refine (Few.out _).mono ?_; rintro e w' ⟨rfl, rfl⟩)
    | (go_at_call 18; refine (take_ok k A z c m size _ H.out hr5 hzc h8 h1 Hd.out h4).mono ?_; rintro e w1 ⟨v1, rfl, hown1, hb1⟩; rw [HT.out] at hown1; obtain ⟨_, A1, c1, rfl, _, _, hrd1⟩ := own_rd hown1; have hr6 := (hr5.below hb1).more hb1.size; clear hown1)
    | (go_at_call 19; refine (rtake_ok k A z c m size _ H.out hr6 h8 h1 Hd.out h4).mono ?_; rintro e w2 ⟨v2, rfl, hown2, hb2⟩; rw [HT.out] at hown2; obtain ⟨_, A2, c2, rfl, _, _, hrd2⟩ := own_rd hown2; clear hown2)
    | (go_at_call 10; refine (shown_any _).mono ?_; rintro e w3 ⟨rfl, hb3⟩; have hrd1' := hrd1.below (hb2.trans (hb3.mono hb2.size)); have hrd2' := hrd2.below hb3)
    | (go_at_call 20; refine (same_any (takel size k) _ _ _ _ _ _ _ _ HT.out (by omega) hrd1' hrd2').mono ?_; rintro e w4 ⟨rfl, d, rfl⟩))
  go_ret
  exact ⟨rfl, below_drewN' (hb1.trans ((hb2.trans (hb3.mono hb2.size)).mono hb1.size)) d⟩

theorem takes_walk (l : List UInt8) (A : Option Addr) (n c : Nat) (size : Int) (w : World) (hn : l.length = n) (hr : Rd w w.heap.size A (bytesV l)) (hc : n ≤ c) (hm : n ≤ 9223372036854775807) :
    Calls Try.prog 5 #[.int .i64 size, .slice A n c] w fun e w' => e = .returned (.bool true) ∧ Below w.heap.size w w' := by
  by_cases h : 1 ≤ size ∧ size ≤ 8
  · obtain ⟨h1, h8⟩ := h
    obtain ⟨s, rfl⟩ := Int.eq_ofNat_of_zero_le (show 0 ≤ size by omega)
    by_cases hd : min n 5000 % s = 0
    · have hdi : ((min n 5000 : Nat) : Int) % (s : Int) = 0 := by omega
      by_cases h4 : min n 5000 ≤ 4096
      · exact takes_ok l A n c (min n 5000 / s) s w hn hr hc hm (by omega) (by omega) (Nat.div_mul_cancel (Nat.dvd_of_mod_eq_zero hd)).symm h4
      · exact takes_no A n c s 4 w hc hm (fun W => take_long A _ c s W (by omega) (by omega) hdi (by omega)) (fun W => rtake_long A _ c s W (by omega) (by omega) hdi (by omega))
    · have hdi : (((min n 5000 : Nat) : Int) % (s : Int) != 0) = true := by rw [bne_iff_ne]; omega
      exact takes_no A n c s 1 w hc hm (fun W => take_parts A _ c s W (by omega) (by omega) hdi) (fun W => rtake_parts A _ c s W (by omega) (by omega) hdi)
  · exact takes_no A n c size 1 w hc hm (fun W => take_arg A _ c size W h) (fun W => rtake_arg A _ c size W h)

theorem takes_contract (H : Type) (enc : TypeId × Value → H) (W : World) (base : Nat) (args : Array Value) (ds gs : List (DataW H)) (before : List MemPlace)
    (hval : ∀ (j : Nat) t v, Try.f5.params[j]? = some t → args[j]? = some v → Value.okWide Try.prog W .any base t v)
    (hW : DataW.Whole enc Try.prog Try.f5.params.toList Rows.fieldTakesSpec.vars false W args.toList ds gs before) :
    Calls Try.prog 5 args W fun e W' => ∃ v, e = .returned v ∧ Rows.fieldTakesSpec.post enc Try.prog Try.f5 false true false false W args v W' := by
  have hW' := hW
  have hlt : ∀ x ∈ before, x.block < W.heap.size := fun x hx => hW.lt x hx
  obtain ⟨p, q, hA0, hV, rfl, _, _⟩ := hW
  have hA : DataW.TrodAll enc Try.prog W 0 (fun _ => true) true Try.f5.params.toList args.toList ds p := hA0
  rw [Try.params5] at hA hval
  obtain ⟨v0, vs0, d0, ds0, p0, q0, hargs, rfl, rfl, h0, r0⟩ := trodAll_cons hA
  obtain ⟨v1, vs1, d1, ds1, p1, q1, rfl, rfl, rfl, h1, r1⟩ := trodAll_cons r0
  obtain ⟨rfl, rfl, rfl⟩ := trodAll_nil r1
  obtain rfl : args = #[v0, v1] := by cases args; simp_all
  obtain ⟨rfl, rfl⟩ := trodVars_none hV
  clear hA0
  obtain ⟨a0, rfl, rfl, rfl, wa0⟩ := open_int Try.underlying3 (hval 0 3 v0 rfl rfl) h0
  have bd0 := bounds_i64 wa0
  obtain ⟨A1, n1, c1, l1, rfl, hn1, hc1, hm1, hr1⟩ := open_bytesL Try.underlying22 Try.underlying5 cells5 (hval 1 22 v1 rfl rfl) h1 (fun x hx => hlt x (by simp [hx]))
  unfold maxLen at hm1
  refine (takes_walk l1 A1 n1 c1 a0 W hn1 hr1 hc1 (by omega)).mono fun e W' ⟨he, hb⟩ => ?_
  subst he
  exact ⟨_, rfl, law_post laid (by kernel_rfl) Try.underlying4 (by rw [Try.params5]; decide +kernel) rfl hW' ⟨rfl, rfl, rfl⟩ hb⟩

set_option maxRecDepth 100000 in
theorem takes_lifted (os : Os) (started : os.Started) (H : Type) (enc : TypeId × Value → H) :
    ReturnsInHanded {} Try.checked os 5 .any (Rows.fieldTakesSpec.pre6 enc Try.prog Try.f5 Rows.fieldTakesRow.domain false) (Rows.fieldTakesSpec.post enc Try.prog Try.f5 false true false false) := by
  refine returnsInHanded_of_change (C := Try.checked) own started (by kernel_rfl) Try.func5
    (ChangeSpec.witness6 (enc := enc) (C := Try.checked) false ⟨#[], #[.int .i64 0, .slice none 0 0], []⟩ 8 (by kernel_rfl) (by kernel_rfl) (by kernel_rfl) (by kernel_rfl)) ?_
  intro W base args ds gs before hval hW _ _
  exact takes_contract H enc W base args ds gs before hval hW

/-- FieldTakes is true for every input. -/
theorem takes_holds : Rows.FieldTakesSaid :=
  OpenClaim.holds_of_wide 5 Try.f5 rfl rfl rfl rfl rfl rfl rfl ⟨rfl, rfl, rfl, rfl, rfl⟩ rfl rfl rfl rfl rfl (by kernel_rfl) Try.func5 (by kernel_rfl)
    (of_decide_eq_true (by kernel_rfl)) (by unfold Func.isWrapper; first | (rw [if_pos (by decide +kernel)]; kernel_rfl) | (rw [if_neg (by decide +kernel)]; exact ⟨rfl, rfl⟩))
    (fun os started H enc _ => takes_lifted os started H enc)
end Go.Proofs.Ytklhikekjfankaa
