/-
  BitsThere: whatever the bytes and the bit, a bit that is made another one, and then what it was, leaves the bytes as they were.
-/
import Derived.Test.YtobjkknemnekjaaF
import Derived.Test.YtobjkknemnekjaaE
namespace Go.Proofs.Ytobjkknemnekjaa
open Go.ChangeShapes Go.WideShapes Go.ChangeAt Go.RowKit

set_option maxHeartbeats 1600000 in
theorem there_bad (k : List UInt8) (A : Option Addr) (n c q : Nat) (x : Int) (w : World) (hkq : k.length = q) (hq : q = min n 500) (hr : Rd w w.heap.size A (bytesV k)) (hc : n ≤ c) (hm : n ≤ 9223372036854775807)
    (h : ¬ (0 ≤ x ∧ x < 8 * (q : Int))) :
    Calls Try.prog 8 #[.slice A n c, .int .i64 x] w fun e w' => e = .returned (.bool true) ∧ Below w.heap.size w w' := by
  have Hk := Lib.hid hkq
  have HR := Lib.hid hr
  have H := Lib.hid h
  have HX := Lib.hid (hbI_out k x (by rw [hkq]; exact h))
  have Hq := Lib.hid hq
  have hq5 : q ≤ 500 := by omega
  clear hkq hr hq h
  go_enter Try.func8, Try.ntmps8
  go_wp2_with (go_at_call 9; refine (shown_any _).mono ?_; rintro e w1 ⟨rfl, hb1⟩; have HB1 := Lib.hid hb1; clear hb1)
  case' inl => rw [show (500 : Nat) = q by have := Hq.out; omega]
  case' inr => rw [show n = q by have := Hq.out; omega]
  all_goals
    clear hm
    refine (has_any k A q c _ x _ Hk.out (HR.out.below HB1.out) (by omega)).mono ?_
    rintro e w2 ⟨rfl, m2, hw2⟩
    have HB2 := Lib.hid (by rw [hw2]; exact below_drewN HB1.out m2 : Below w.heap.size w w2)
    clear hw2
    rw [HX.out]
    go_wp2_with fail
    refine (with_arg A q c x true _ (by omega) H.out).mono ?_
    rintro e w' ⟨rfl, rfl⟩
    have hx : x < 0 ∨ (¬ x < 0 ∧ 8 * (q : Int) ≤ x) := by have := H.out; omega
    rcases hx with h0 | ⟨h0, h1⟩
  all_goals
    go_wp2_with fail
    go_ret
    exact ⟨rfl, HB2.out⟩

set_option maxHeartbeats 1600000 in
theorem there_ok (k : List UInt8) (A : Option Addr) (n c q i ck cK : Nat) (was not : Bool) (d : Int) (w : World) (hkq : k.length = q) (hq : q = min n 500) (hr : Rd w w.heap.size A (bytesV k)) (hc : n ≤ c) (hm : n ≤ 9223372036854775807)
    (hi : i < 8 * q) (hwas : hb k i = was) (hnot : not = !was) (hck : all1 k = ck) (hcK : all1 (wb k i not) = cK) (hd : (cK : Int) - (ck : Int) = d) (hd2 : (d = 1 ∧ was = false) ∨ (d = -1 ∧ was = true)) :
    Calls Try.prog 8 #[.slice A n c, .int .i64 (i : Int)] w fun e w' => e = .returned (.bool true) ∧ Below w.heap.size w w' := by
  have Hk := Lib.hid hkq
  have HR := Lib.hid hr
  have hK0 : wb (wb k i not) i was = k := by rw [← hwas]; exact wb_back k i not (by omega)
  have hX0 : hbI (wb k i not) (i : Int) = not := by rw [hbI_nat, hb_wb _ _ _ _ (by omega), if_pos rfl]
  have hl0 : (wb k i not).length = q := by rw [length_wb, hkq]
  obtain ⟨K, hK⟩ : ∃ K, K = wb k i not := ⟨_, rfl⟩
  rw [← hK] at hK0 hX0 hl0 hcK
  have HK := Lib.hid hK
  have HKl := Lib.hid hl0
  have HK2 := Lib.hid hK0
  have HX := Lib.hid hX0
  have HW : Hid (hbI k (i : Int) = was) := Lib.hid (by rw [hbI_nat]; exact hwas)
  have HN := Lib.hid hnot
  have HC : Hid (cnt k 0 (8 * (q : Int)) (8 * k.length) = ck) := Lib.hid (by rw [← hkq]; exact hck)
  have HCK : Hid (cnt K 0 (8 * (q : Int)) (8 * K.length) = cK) := Lib.hid (by rw [← hl0]; exact hcK)
  have Hq := Lib.hid hq
  have hck1 : ck ≤ 8 * q := by rw [← hck, ← hkq]; exact all1_le k
  have hck2 : cK ≤ 8 * q := by rw [← hcK, ← hl0]; exact all1_le K
  have hq5 : q ≤ 500 := by omega
  have hwd : IntKind.i64.wrap ((cK : Int) - (ck : Int)) = d := by rw [IntKind.wrap_i64]; omega
  clear hkq hr hq hK hK0 hX0 hl0 hwas hnot hck hcK
  go_enter Try.func8, Try.ntmps8
  go_wp2_with (go_at_call 9; refine (shown_any _).mono ?_; rintro e w1 ⟨rfl, hb1⟩; have HB1 := Lib.hid hb1; clear hb1)
  case' inl => rw [show (500 : Nat) = q by have := Hq.out; omega]
  case' inr => rw [show n = q by have := Hq.out; omega]
  all_goals
    clear hm
    refine (has_any k A q c _ i _ Hk.out (HR.out.below HB1.out) (by omega)).mono ?_
    rintro e w2 ⟨rfl, m2, hw2⟩
    have HB2 := Lib.hid (by rw [hw2]; exact below_drewN HB1.out m2 : Below w.heap.size w w2)
    clear hw2
    rw [HW.out]
    go_wp2_with fail
    rw [← HN.out]
    refine (with_ok k A q c i not _ Hk.out ((HR.out.below HB2.out).more HB2.out.size) hi (by omega)).mono ?_
    rintro e w3 ⟨v3, rfl, hown3, hb3⟩
    rw [← HK.out, HKl.out] at hown3
    obtain ⟨g3, c3, rfl, hc3⟩ := own_pos hown3 (by omega)
    have HR3 := Lib.hid (own_rdp hown3)
    have HB3 := Lib.hid (HB2.out.trans (hb3.mono HB2.out.size))
    clear hb3 hown3
    go_wp2_with fail
    refine (with_ok K _ q c3 i was _ HKl.out HR3.out hi (by omega)).mono ?_
    rintro e w4 ⟨v4, rfl, hown4, hb4⟩
    rw [HK2.out, Hk.out] at hown4
    obtain ⟨g4, c4, rfl, hc4⟩ := own_pos hown4 (by omega)
    have HR4 := Lib.hid (own_rdp hown4)
    have HB4 := Lib.hid (HB3.out.trans (hb4.mono HB3.out.size))
    have HR3' := Lib.hid (HR3.out.below hb4)
    clear hb4 hown4
    go_wp2_with fail
    refine (count_any K _ q c3 _ 0 (8 * (q : Int)) _ HKl.out HR3'.out (by omega) (by omega)).mono ?_
    rintro e w5 ⟨rfl, m5, hw5⟩
    have HB5 := Lib.hid (by rw [hw5]; exact below_drewN HB4.out m5 : Below w.heap.size w w5)
    have HR5 := Lib.hid (by rw [hw5]; exact HR3'.out.drewN m5 : Rd w5 w3.heap.size (some ⟨g3, 0, none⟩) (bytesV K))
    have HR6 := Lib.hid (by rw [hw5]; exact HR4.out.drewN m5 : Rd w5 w4.heap.size (some ⟨g4, 0, none⟩) (bytesV k))
    rw [HCK.out]
    clear hw5
    go_wp2_with fail
    refine (count_any k A q c _ 0 (8 * (q : Int)) _ Hk.out (HR.out.below HB5.out) (by omega) (by omega)).mono ?_
    rintro e w6 ⟨rfl, m6, hw6⟩
    have HB6 := Lib.hid (by rw [hw6]; exact below_drewN HB5.out m6 : Below w.heap.size w w6)
    have HR7 := Lib.hid (by rw [hw6]; exact HR5.out.drewN m6 : Rd w6 w3.heap.size (some ⟨g3, 0, none⟩) (bytesV K))
    have hr8 : Rd w6 w4.heap.size (some ⟨g4, 0, none⟩) (bytesV k) := (by rw [hw6]; exact HR6.out.drewN m6)
    have hcv1 := str_fact (c := c) HR.out HB6.out Hk.out
    have hcv4 := str_fact (c := c4) hr8 (Below.refl _ _) Hk.out
    rw [HC.out]
    clear hw6 hr8
    rcases hd2 with ⟨rfl, rfl⟩ | ⟨rfl, rfl⟩
  all_goals
    have hnn := HN.out
    simp only [Bool.not_true, Bool.not_false] at hnn
    subst hnn
    go_wp2_with fail
    refine (has_any K _ q c3 _ i _ HKl.out HR7.out (by omega)).mono ?_
    rintro e w7 ⟨rfl, m7, hw7⟩
    have HB7 := Lib.hid (by rw [hw7]; exact below_drewN HB6.out m7 : Below w.heap.size w w7)
    rw [HX.out]
    clear hw7
    go_wp2_with fail
    go_ret
    exact ⟨rfl, HB7.out⟩

theorem there_walk (l : List UInt8) (A : Option Addr) (n c : Nat) (x : Int) (w : World) (hn : l.length = n) (hr : Rd w w.heap.size A (bytesV l)) (hc : n ≤ c) (hm : n ≤ 9223372036854775807) :
    Calls Try.prog 8 #[.slice A n c, .int .i64 x] w fun e w' => e = .returned (.bool true) ∧ Below w.heap.size w w' := by
  have hr6 := hr.take 500
  rw [← bytesV_take] at hr6
  have hkq : (l.take 500).length = min n 500 := by rw [List.length_take, hn]; omega
  generalize l.take 500 = k at *
  obtain ⟨q, hq⟩ : ∃ q, q = min n 500 := ⟨_, rfl⟩
  rw [← hq] at hkq
  by_cases h : 0 ≤ x ∧ x < 8 * (q : Int)
  · obtain ⟨i, rfl⟩ := Int.eq_ofNat_of_zero_le h.1
    have hi : i < 8 * k.length := by omega
    cases hb' : hb k i with
    | false =>
      have h1 := all1_on k i hi hb'
      exact there_ok k A n c q i (all1 k) (all1 (wb k i true)) false true 1 w hkq hq hr6 hc hm (by omega) hb' rfl rfl rfl (by omega) (.inl ⟨rfl, rfl⟩)
    | true =>
      have h1 := all1_off k i hi hb'
      exact there_ok k A n c q i (all1 k) (all1 (wb k i false)) true false (-1) w hkq hq hr6 hc hm (by omega) hb' rfl rfl rfl (by omega) (.inr ⟨rfl, rfl⟩)
  · exact there_bad k A n c q x w hkq hq hr6 hc hm h

theorem there_contract (H : Type) (enc : TypeId × Value → H) (W : World) (base : Nat) (args : Array Value) (ds gs : List (DataW H)) (before : List MemPlace)
    (hval : ∀ (j : Nat) t v, Try.f8.params[j]? = some t → args[j]? = some v → Value.okWide Try.prog W .any base t v)
    (hW : DataW.Whole enc Try.prog Try.f8.params.toList Rows.bitsThereSpec.vars false W args.toList ds gs before) :
    Calls Try.prog 8 args W fun e W' => ∃ v, e = .returned v ∧ Rows.bitsThereSpec.post enc Try.prog Try.f8 false true false false W args v W' := by
  have hW' := hW
  have hlt : ∀ x ∈ before, x.block < W.heap.size := fun x hx => hW.lt x hx
  obtain ⟨p, q, hA0, hV, rfl, _, _⟩ := hW
  have hA : DataW.TrodAll enc Try.prog W 0 (fun _ => true) true Try.f8.params.toList args.toList ds p := hA0
  rw [Try.params8] at hA hval
  obtain ⟨v0, vs0, d0, ds0, p0, q0, hargs, rfl, rfl, h0, r0⟩ := trodAll_cons hA
  obtain ⟨v1, vs1, d1, ds1, p1, q1, rfl, rfl, rfl, h1, r1⟩ := trodAll_cons r0
  obtain ⟨rfl, rfl, rfl⟩ := trodAll_nil r1
  obtain rfl : args = #[v0, v1] := by cases args; simp_all
  obtain ⟨rfl, rfl⟩ := trodVars_none hV
  clear hA0
  obtain ⟨A0, n0, c0, l0, rfl, hn0, hc0, hm0, hr0⟩ := open_bytesL Try.underlying22 Try.underlying5 cells5 (hval 0 22 v0 rfl rfl) h0 (fun x hx => hlt x (by simp [hx]))
  unfold maxLen at hm0
  obtain ⟨a1, rfl, rfl, rfl, wa1⟩ := open_int Try.underlying3 (hval 1 3 v1 rfl rfl) h1
  have bd1 := bounds_i64 wa1
  refine (there_walk l0 A0 n0 c0 a1 W hn0 hr0 hc0 (by omega)).mono fun e W' ⟨he, hb⟩ => ?_
  subst he
  exact ⟨_, rfl, law_post laid (by kernel_rfl) Try.underlying4 (by rw [Try.params8]; decide +kernel) rfl hW' ⟨rfl, rfl, rfl⟩ hb⟩

set_option maxRecDepth 100000 in
theorem there_lifted (os : Os) (started : os.Started) (H : Type) (enc : TypeId × Value → H) :
    ReturnsInHanded {} Try.checked os 8 .any (Rows.bitsThereSpec.pre6 enc Try.prog Try.f8 Rows.bitsThereRow.domain false) (Rows.bitsThereSpec.post enc Try.prog Try.f8 false true false false) := by
  refine returnsInHanded_of_change (C := Try.checked) own started (by kernel_rfl) Try.func8
    (ChangeSpec.witness6 (enc := enc) (C := Try.checked) false ⟨#[], #[.slice none 0 0, .int .i64 0], []⟩ 8 (by kernel_rfl) (by kernel_rfl) (by kernel_rfl) (by kernel_rfl)) ?_
  intro W base args ds gs before hval hW _ _
  exact there_contract H enc W base args ds gs before hval hW

/-- BitsThere is true for every input. -/
theorem there_holds : Rows.BitsThereSaid :=
  OpenClaim.holds_of_wide 8 Try.f8 rfl rfl rfl rfl rfl rfl rfl ⟨rfl, rfl, rfl, rfl, rfl⟩ rfl rfl rfl rfl rfl (by kernel_rfl) Try.func8 (by kernel_rfl)
    (of_decide_eq_true (by kernel_rfl)) (by unfold Func.isWrapper; first | (rw [if_pos (by decide +kernel)]; kernel_rfl) | (rw [if_neg (by decide +kernel)]; exact ⟨rfl, rfl⟩))
    (fun os started H enc _ => there_lifted os started H enc)
end Go.Proofs.Ytobjkknemnekjaa
