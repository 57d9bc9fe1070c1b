/-
  BitsBack: whatever the bytes, the bit and another one, a bit that was made is as it was made, and no other one is changed.
-/
import Derived.Test.YtobjkknemnekjaaF
namespace Go.Proofs.Ytobjkknemnekjaa
open Go.ChangeShapes Go.WideShapes Go.ChangeAt Go.RowKit

theorem hbI_wb (l : List UInt8) (i : Nat) (y : Int) (on : Bool) (h : i < 8 * l.length) (hy : ¬ (y = (i : Int))) : hbI (wb l i on) y = hbI l y := by
  by_cases h0 : 0 ≤ y
  · obtain ⟨j, rfl⟩ := Int.eq_ofNat_of_zero_le h0
    rw [hbI_nat, hbI_nat, hb_wb _ _ _ _ h, if_neg (by omega)]
  · rw [hbI_neg _ _ (by omega), hbI_neg _ _ (by omega)]

set_option maxHeartbeats 1600000 in
theorem back_bad (k : List UInt8) (A : Option Addr) (n c q : Nat) (x y : Int) (on : Bool) (w : World) (hkq : k.length = q) (hq : q = min n 500) (hr : Rd w w.heap.size A (bytesV k)) (hc : n ≤ c) (hm : n ≤ 9223372036854775807)
    (h : ¬ (0 ≤ x ∧ x < 8 * (q : Int))) :
    Calls Try.prog 5 #[.slice A n c, .int .i64 x, .int .i64 y, .bool on] w fun e w' => e = .returned (.bool true) ∧ Below w.heap.size w w' := by
  have Hk := Lib.hid hkq
  have HR := Lib.hid hr
  have H := Lib.hid h
  have HX := Lib.hid (hbI_out k x (by rw [hkq]; exact h))
  have Hq := Lib.hid hq
  have hq5 : q ≤ 500 := by omega
  clear hkq hr hq h
  go_enter Try.func5, Try.ntmps5
  go_wp2_with (go_at_call 9; refine (shown_any _).mono ?_; rintro e w1 ⟨rfl, hb1⟩; have HB1 := Lib.hid hb1; clear hb1)
  case' inl => rw [show (500 : Nat) = q by have := Hq.out; omega]
  case' inr => rw [show n = q by have := Hq.out; omega]
  all_goals
    refine (with_arg A q c x on _ (by omega) H.out).mono ?_
    rintro e w' ⟨rfl, rfl⟩
    have hx : x < 0 ∨ (¬ x < 0 ∧ 8 * (q : Int) ≤ x) := by have := H.out; omega
    clear hm
    rcases hx with h0 | ⟨h0, h1⟩
  all_goals
    go_wp2_with fail
    refine (has_any k A q c _ x _ Hk.out (HR.out.below HB1.out) (by omega)).mono ?_
    rintro e w2 ⟨rfl, m2, hw2⟩
    have HB2 := Lib.hid (by rw [hw2]; exact below_drewN HB1.out m2 : Below w.heap.size w w2)
    clear hw2
    rw [HX.out]
    go_wp2_with fail
    go_ret
    exact ⟨rfl, HB2.out⟩

set_option maxHeartbeats 1600000 in
theorem back_ok (k : List UInt8) (A : Option Addr) (n c q i : Nat) (y : Int) (on : Bool) (w : World) (hkq : k.length = q) (hq : q = min n 500) (hr : Rd w w.heap.size A (bytesV k)) (hc : n ≤ c) (hm : n ≤ 9223372036854775807)
    (hi : i < 8 * q) :
    Calls Try.prog 5 #[.slice A n c, .int .i64 (i : Int), .int .i64 y, .bool on] w fun e w' => e = .returned (.bool true) ∧ Below w.heap.size w w' := by
  have Hk := Lib.hid hkq
  have HR := Lib.hid hr
  obtain ⟨K, hK⟩ : ∃ K, K = wb k i on := ⟨_, rfl⟩
  have HK := Lib.hid hK
  have HKl : Hid (K.length = q) := Lib.hid (by rw [hK, length_wb, hkq])
  have HK2 : Hid (wb K i on = K) := Lib.hid (by rw [hK]; exact wb_wb k i on (by omega))
  have HX : Hid (hbI K (i : Int) = on) := Lib.hid (by rw [hK, hbI_nat, hb_wb _ _ _ _ (by omega), if_pos rfl])
  have HY : Hid (¬ (y = (i : Int)) → hbI K y = hbI k y) := Lib.hid (fun hy => by rw [hK]; exact hbI_wb k i y on (by omega) hy)
  have Hq := Lib.hid hq
  have hq5 : q ≤ 500 := by omega
  have hi0 : ¬ ((i : Int) < 0) := by omega
  have hi1 : ¬ (8 * (q : Int) ≤ (i : Int)) := by omega
  clear hkq hr hq hK
  go_enter Try.func5, Try.ntmps5
  go_wp2_with (go_at_call 9; refine (shown_any _).mono ?_; rintro e w1 ⟨rfl, hb1⟩; have HB1 := Lib.hid hb1; clear hb1)
  case' inl => rw [show (500 : Nat) = q by have := Hq.out; omega]
  case' inr => rw [show n = q by have := Hq.out; omega]
  all_goals
    refine (with_ok k A q c i on _ Hk.out ((HR.out.below HB1.out).more HB1.out.size) hi (by omega)).mono ?_
    rintro e w2 ⟨v2, rfl, hown2, hb2⟩
    rw [← HK.out, HKl.out] at hown2
    obtain ⟨g2, c2, rfl, hc2⟩ := own_pos hown2 (by omega)
    have HR2 := Lib.hid (own_rdp hown2)
    have HB2 := Lib.hid (HB1.out.trans (hb2.mono HB1.out.size))
    clear hb2 hown2 hm
    go_wp2_with fail
    refine (with_ok K _ q c2 i on _ HKl.out HR2.out hi (by omega)).mono ?_
    rintro e w3 ⟨v3, rfl, hown3, hb3⟩
    rw [HK2.out, HKl.out] at hown3
    obtain ⟨g3, c3, rfl, hc3⟩ := own_pos hown3 (by omega)
    have HR3 := Lib.hid (own_rdp hown3)
    have HB3 := Lib.hid (HB2.out.trans (hb3.mono HB2.out.size))
    have HR2' := Lib.hid (HR2.out.below hb3)
    clear hb3 hown3
    go_wp2_with fail
    refine (has_any K _ q c2 _ i _ HKl.out HR2'.out (by omega)).mono ?_
    rintro e w4 ⟨rfl, m4, hw4⟩
    have HB4 := Lib.hid (by rw [hw4]; exact below_drewN HB3.out m4 : Below w.heap.size w w4)
    have HR4 := Lib.hid (by rw [hw4]; exact HR2'.out.drewN m4 : Rd w4 w2.heap.size (some ⟨g2, 0, none⟩) (bytesV K))
    have HR5 := Lib.hid (by rw [hw4]; exact HR3.out.drewN m4 : Rd w4 w3.heap.size (some ⟨g3, 0, none⟩) (bytesV K))
    rw [HX.out]
    clear hw4
    by_cases hy : y = (i : Int)
    · have hcv2 := str_fact (c := c2) HR4.out (Below.refl _ _) HKl.out
      have hcv3 := str_fact (c := c3) HR5.out (Below.refl _ _) HKl.out
      go_wp2_with fail
      go_ret
      exact ⟨rfl, HB4.out⟩
    · have hyb : (y == (i : Int)) = false := by simp [hy]
      have HYY := Lib.hid (HY.out hy)
      clear hy
      go_wp2_with fail
      refine (has_any K _ q c2 _ y _ HKl.out HR4.out (by omega)).mono ?_
      rintro e w5 ⟨rfl, m5, hw5⟩
      have HB5 := Lib.hid (by rw [hw5]; exact below_drewN HB4.out m5 : Below w.heap.size w w5)
      have HR6 := Lib.hid (by rw [hw5]; exact HR4.out.drewN m5 : Rd w5 w2.heap.size (some ⟨g2, 0, none⟩) (bytesV K))
      have HR7 := Lib.hid (by rw [hw5]; exact HR5.out.drewN m5 : Rd w5 w3.heap.size (some ⟨g3, 0, none⟩) (bytesV K))
      rw [HYY.out]
      clear hw5
      go_wp2_with fail
      refine (has_any k A q c _ y _ Hk.out (HR.out.below HB5.out) (by omega)).mono ?_
      rintro e w6 ⟨rfl, m6, hw6⟩
      have HB6 := Lib.hid (by rw [hw6]; exact below_drewN HB5.out m6 : Below w.heap.size w w6)
      have hr8 : Rd w6 w2.heap.size (some ⟨g2, 0, none⟩) (bytesV K) := (by rw [hw6]; exact HR6.out.drewN m6)
      have hr9 : Rd w6 w3.heap.size (some ⟨g3, 0, none⟩) (bytesV K) := (by rw [hw6]; exact HR7.out.drewN m6)
      have hcv2 := str_fact (c := c2) hr8 (Below.refl _ _) HKl.out
      have hcv3 := str_fact (c := c3) hr9 (Below.refl _ _) HKl.out
      clear hw6 hr8 hr9
      go_wp2_with fail
      go_ret
      exact ⟨rfl, HB6.out⟩

theorem back_walk (l : List UInt8) (A : Option Addr) (n c : Nat) (x y : Int) (on : Bool) (w : World) (hn : l.length = n) (hr : Rd w w.heap.size A (bytesV l)) (hc : n ≤ c) (hm : n ≤ 9223372036854775807) :
    Calls Try.prog 5 #[.slice A n c, .int .i64 x, .int .i64 y, .bool on] w fun e w' => e = .returned (.bool true) ∧ Below w.heap.size w w' := by
  have hr6 := hr.take 500
  rw [← bytesV_take] at hr6
  have hkq : (l.take 500).length = min n 500 := by rw [List.length_take, hn]; omega
  generalize l.take 500 = k at *
  obtain ⟨q, hq⟩ : ∃ q, q = min n 500 := ⟨_, rfl⟩
  rw [← hq] at hkq
  by_cases h : 0 ≤ x ∧ x < 8 * (q : Int)
  · obtain ⟨i, rfl⟩ := Int.eq_ofNat_of_zero_le h.1
    exact back_ok k A n c q i y on w hkq hq hr6 hc hm (by omega)
  · exact back_bad k A n c q x y on w hkq hq hr6 hc hm h

theorem back_contract (H : Type) (enc : TypeId × Value → H) (W : World) (base : Nat) (args : Array Value) (ds gs : List (DataW H)) (before : List MemPlace)
    (hval : ∀ (j : Nat) t v, Try.f5.params[j]? = some t → args[j]? = some v → Value.okWide Try.prog W .any base t v)
    (hW : DataW.Whole enc Try.prog Try.f5.params.toList Rows.bitsBackSpec.vars false W args.toList ds gs before) :
    Calls Try.prog 5 args W fun e W' => ∃ v, e = .returned v ∧ Rows.bitsBackSpec.post enc Try.prog Try.f5 false true false false W args v W' := by
  have hW' := hW
  have hlt : ∀ x ∈ before, x.block < W.heap.size := fun x hx => hW.lt x hx
  obtain ⟨p, q, hA0, hV, rfl, _, _⟩ := hW
  have hA : DataW.TrodAll enc Try.prog W 0 (fun _ => true) true Try.f5.params.toList args.toList ds p := hA0
  rw [Try.params5] at hA hval
  obtain ⟨v0, vs0, d0, ds0, p0, q0, hargs, rfl, rfl, h0, r0⟩ := trodAll_cons hA
  obtain ⟨v1, vs1, d1, ds1, p1, q1, rfl, rfl, rfl, h1, r1⟩ := trodAll_cons r0
  obtain ⟨v2, vs2, d2, ds2, p2, q2, rfl, rfl, rfl, h2, r2⟩ := trodAll_cons r1
  obtain ⟨v3, vs3, d3, ds3, p3, q3, rfl, rfl, rfl, h3, r3⟩ := trodAll_cons r2
  obtain ⟨rfl, rfl, rfl⟩ := trodAll_nil r3
  obtain rfl : args = #[v0, v1, v2, v3] := by cases args; simp_all
  obtain ⟨rfl, rfl⟩ := trodVars_none hV
  clear hA0
  obtain ⟨A0, n0, c0, l0, rfl, hn0, hc0, hm0, hr0⟩ := open_bytesL Try.underlying22 Try.underlying5 cells5 (hval 0 22 v0 rfl rfl) h0 (fun x hx => hlt x (by simp [hx]))
  unfold maxLen at hm0
  obtain ⟨a1, rfl, rfl, rfl, wa1⟩ := open_int Try.underlying3 (hval 1 3 v1 rfl rfl) h1
  have bd1 := bounds_i64 wa1
  obtain ⟨a2, rfl, rfl, rfl, wa2⟩ := open_int Try.underlying3 (hval 2 3 v2 rfl rfl) h2
  have bd2 := bounds_i64 wa2
  obtain ⟨b3, rfl, rfl, rfl⟩ := open_bool Try.underlying4 (hval 3 4 v3 rfl rfl) h3
  refine (back_walk l0 A0 n0 c0 a1 a2 b3 W hn0 hr0 hc0 (by omega)).mono fun e W' ⟨he, hb⟩ => ?_
  subst he
  exact ⟨_, rfl, law_post laid (by kernel_rfl) Try.underlying4 (by rw [Try.params5]; decide +kernel) rfl hW' ⟨rfl, rfl, rfl⟩ hb⟩

set_option maxRecDepth 100000 in
theorem back_lifted (os : Os) (started : os.Started) (H : Type) (enc : TypeId × Value → H) :
    ReturnsInHanded {} Try.checked os 5 .any (Rows.bitsBackSpec.pre6 enc Try.prog Try.f5 Rows.bitsBackRow.domain false) (Rows.bitsBackSpec.post enc Try.prog Try.f5 false true false false) := by
  refine returnsInHanded_of_change (C := Try.checked) own started (by kernel_rfl) Try.func5
    (ChangeSpec.witness6 (enc := enc) (C := Try.checked) false ⟨#[], #[.slice none 0 0, .int .i64 0, .int .i64 0, .bool false], []⟩ 8 (by kernel_rfl) (by kernel_rfl) (by kernel_rfl) (by kernel_rfl)) ?_
  intro W base args ds gs before hval hW _ _
  exact back_contract H enc W base args ds gs before hval hW

/-- BitsBack is true for every input. -/
theorem back_holds : Rows.BitsBackSaid :=
  OpenClaim.holds_of_wide 5 Try.f5 rfl rfl rfl rfl rfl rfl rfl ⟨rfl, rfl, rfl, rfl, rfl⟩ rfl rfl rfl rfl rfl (by kernel_rfl) Try.func5 (by kernel_rfl)
    (of_decide_eq_true (by kernel_rfl)) (by unfold Func.isWrapper; first | (rw [if_pos (by decide +kernel)]; kernel_rfl) | (rw [if_neg (by decide +kernel)]; exact ⟨rfl, rfl⟩))
    (fun os started H enc _ => back_lifted os started H enc)
end Go.Proofs.Ytobjkknemnekjaa
