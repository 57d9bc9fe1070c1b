/-
  FieldLays: whatever the size and the numbers, Lay's bytes and error are the document's.
-/
import Derived.Test.YtklhikekjfankaaF
namespace Go.Proofs.Ytklhikekjfankaa
open Go.ChangeShapes Go.WideShapes Go.ChangeAt Go.RowKit

theorem lays_arg (A : Option Addr) (n c : Nat) (size : Int) (w : World) (_hc : n ≤ c) (_hm : n ≤ 9223372036854775807) (h : ¬ (1 ≤ size ∧ size ≤ 8)) :
    Calls Try.prog 4 #[.int .i64 size, .slice A n c] w fun e w' => e = .returned (.bool true) ∧ Below w.heap.size w w' := by
  have hnil := str_nil
  have H := Lib.hid h
  clear h
  go_enter Try.func4, Try.ntmps4
  go_wp2_with (first
    | (go_at_call 16; refine (lay_arg _ _ _ _ _ H.out).mono ?_; rintro e w' ⟨rfl, rfl⟩)
    | (go_at_call 17; refine (rlay_arg _ _ _ _ _ H.out).mono ?_; rintro e w' ⟨rfl, rfl⟩)
    | (go_at_call 10; refine (shown_any _).mono ?_; rintro e w1 ⟨rfl, hb⟩))
  all_goals
    go_ret
    exact ⟨rfl, hb⟩

set_option maxHeartbeats 400000 in
/-- At a size that is right, behind the cut to 5,000 numbers. -/
theorem lays_right (L : List Nat) (A : Option Addr) (n c size : Nat) (w : World) (hn : L.length = n) (hr : Rd w w.heap.size A (numsV L)) (hc : n ≤ c) (hm : n ≤ 9223372036854775807) (hb : ∀ x ∈ L, x < 18446744073709551616)
    (h1 : 1 ≤ size) (h8 : size ≤ 8) :
    Calls Try.prog 4 #[.int .i64 size, .slice A n c] w fun e w' => e = .returned (.bool true) ∧ Below w.heap.size w w' := by
  have hnil := str_nil
  have hr5 := hr.take 5000
  rw [← numsV_take] at hr5
  have hb5 : ∀ x ∈ L.take 5000, x < 18446744073709551616 := fun x hx => hb x (List.mem_of_mem_take hx)
  have H := Lib.hid (few_lenN L n hn)
  obtain ⟨K, hK⟩ : ∃ K, K = L.take 5000 := ⟨_, rfl⟩
  obtain ⟨m, hme⟩ : ∃ m, m = min n 5000 := ⟨_, rfl⟩
  have hm5 : m ≤ 5000 := by omega
  rw [← hK] at H hr5 hb5
  rw [← hme] at H
  have lay := fun w (h : Rd w w.heap.size A (numsV K)) => lay_any K A m c size w H.out h h8 h1 hb5
  have rlay := fun w (h : Rd w w.heap.size A (numsV K)) => rlay_any K A m c size w H.out h h8 h1 hb5 (by omega)
  have HL := Lib.hid lay
  have HR := Lib.hid rlay
  clear hn hr hK hb hb5 lay rlay
  have h5000 : (5000 < (n : Int) → m = 5000) ∧ (¬ (5000 < (n : Int)) → m = n) := by omega
  have H5 := Lib.hid h5000
  clear h5000 hme
  cases hB : layB size K with
  | true =>
    have HB := Lib.hid hB
    clear hB
    by_cases hbig : 5000 < (n : Int)
    · obtain rfl := H5.out.1 hbig
      go_enter Try.func4, Try.ntmps4
      go_wp2_with (first
        | (go_at_call 16; refine (HL.out _ hr5).mono ?_; rintro e w1 hp; obtain ⟨v1, rfl, hown1, hb1⟩ := hp.1 HB.out; obtain ⟨_, A1, c1, rfl, _, _, hrd1⟩ := own_rd hown1; have hr6 := (hr5.below hb1).more hb1.size; clear hown1 hp)
        | (go_at_call 17; refine (HR.out _ hr6).mono ?_; rintro e w2 hp; obtain ⟨v2, rfl, hown2, hb2⟩ := hp.1 HB.out; obtain ⟨_, A2, c2, rfl, _, _, hrd2⟩ := own_rd hown2; clear hown2 hp)
        | (go_at_call 10; refine (shown_any _).mono ?_; rintro e w3 ⟨rfl, hb3⟩; have hcv1 := str_fact (c := c1) hrd1 (hb2.trans (hb3.mono hb2.size)) rfl; have hcv2 := str_fact (c := c2) hrd2 hb3 rfl))
      go_ret
      exact ⟨rfl, hb1.trans ((hb2.trans (hb3.mono hb2.size)).mono hb1.size)⟩
    · obtain rfl := H5.out.2 hbig
      go_enter Try.func4, Try.ntmps4
      go_wp2_with (first
        | (go_at_call 16; refine (HL.out _ hr5).mono ?_; rintro e w1 hp; obtain ⟨v1, rfl, hown1, hb1⟩ := hp.1 HB.out; obtain ⟨_, A1, c1, rfl, _, _, hrd1⟩ := own_rd hown1; have hr6 := (hr5.below hb1).more hb1.size; clear hown1 hp)
        | (go_at_call 17; refine (HR.out _ hr6).mono ?_; rintro e w2 hp; obtain ⟨v2, rfl, hown2, hb2⟩ := hp.1 HB.out; obtain ⟨_, A2, c2, rfl, _, _, hrd2⟩ := own_rd hown2; clear hown2 hp)
        | (go_at_call 10; refine (shown_any _).mono ?_; rintro e w3 ⟨rfl, hb3⟩; have hcv1 := str_fact (c := c1) hrd1 (hb2.trans (hb3.mono hb2.size)) rfl; have hcv2 := str_fact (c := c2) hrd2 hb3 rfl))
      go_ret
      exact ⟨rfl, hb1.trans ((hb2.trans (hb3.mono hb2.size)).mono hb1.size)⟩
  | false =>
    have HB := Lib.hid hB
    clear hB
    by_cases hbig : 5000 < (n : Int)
    · obtain rfl := H5.out.1 hbig
      go_enter Try.func4, Try.ntmps4
      go_wp2_with (first
        | (go_at_call 16; refine (HL.out _ hr5).mono ?_; rintro e w1 hp; obtain ⟨rfl, hb1⟩ := hp.2 HB.out; have hr6 := (hr5.below hb1).more hb1.size; clear hp)
        | (go_at_call 17; refine (HR.out _ hr6).mono ?_; rintro e w2 hp; obtain ⟨rfl, hb2⟩ := hp.2 HB.out; clear hp)
        | (go_at_call 10; refine (shown_any _).mono ?_; rintro e w3 ⟨rfl, hb3⟩))
      go_ret
      exact ⟨rfl, hb1.trans ((hb2.trans (hb3.mono hb2.size)).mono hb1.size)⟩
    · obtain rfl := H5.out.2 hbig
      go_enter Try.func4, Try.ntmps4
      go_wp2_with (first
        | (go_at_call 16; refine (HL.out _ hr5).mono ?_; rintro e w1 hp; obtain ⟨rfl, hb1⟩ := hp.2 HB.out; have hr6 := (hr5.below hb1).more hb1.size; clear hp)
        | (go_at_call 17; refine (HR.out _ hr6).mono ?_; rintro e w2 hp; obtain ⟨rfl, hb2⟩ := hp.2 HB.out; clear hp)
        | (go_at_call 10; refine (shown_any _).mono ?_; rintro e w3 ⟨rfl, hb3⟩))
      go_ret
      exact ⟨rfl, hb1.trans ((hb2.trans (hb3.mono hb2.size)).mono hb1.size)⟩

theorem lays_walk (L : List Nat) (A : Option Addr) (n c : Nat) (size : Int) (w : World) (hn : L.length = n) (hr : Rd w w.heap.size A (numsV L)) (hc : n ≤ c) (hm : n ≤ 9223372036854775807) (hb : ∀ x ∈ L, x < 18446744073709551616) :
    Calls Try.prog 4 #[.int .i64 size, .slice A n c] w fun e w' => e = .returned (.bool true) ∧ Below w.heap.size w w' := by
  by_cases h : 1 ≤ size ∧ size ≤ 8
  · obtain ⟨k, rfl⟩ := Int.eq_ofNat_of_zero_le (show 0 ≤ size by omega)
    exact lays_right L A n c k w hn hr hc hm hb (by omega) (by omega)
  · exact lays_arg A n c size w hc hm h

theorem lays_contract (H : Type) (enc : TypeId × Value → H) (W : World) (base : Nat) (args : Array Value) (ds gs : List (DataW H)) (before : List MemPlace)
    (hval : ∀ (j : Nat) t v, Try.f4.params[j]? = some t → args[j]? = some v → Value.okWide Try.prog W .any base t v)
    (hW : DataW.Whole enc Try.prog Try.f4.params.toList Rows.fieldLaysSpec.vars false W args.toList ds gs before) :
    Calls Try.prog 4 args W fun e W' => ∃ v, e = .returned v ∧ Rows.fieldLaysSpec.post enc Try.prog Try.f4 false true false false W args v W' := by
  have hW' := hW
  have hlt : ∀ x ∈ before, x.block < W.heap.size := fun x hx => hW.lt x hx
  obtain ⟨p, q, hA0, hV, rfl, _, _⟩ := hW
  have hA : DataW.TrodAll enc Try.prog W 0 (fun _ => true) true Try.f4.params.toList args.toList ds p := hA0
  rw [Try.params4] at hA hval
  obtain ⟨v0, vs0, d0, ds0, p0, q0, hargs, rfl, rfl, h0, r0⟩ := trodAll_cons hA
  obtain ⟨v1, vs1, d1, ds1, p1, q1, rfl, rfl, rfl, h1, r1⟩ := trodAll_cons r0
  obtain ⟨rfl, rfl, rfl⟩ := trodAll_nil r1
  obtain rfl : args = #[v0, v1] := by cases args; simp_all
  obtain ⟨rfl, rfl⟩ := trodVars_none hV
  clear hA0
  obtain ⟨a0, rfl, rfl, rfl, wa0⟩ := open_int Try.underlying3 (hval 0 3 v0 rfl rfl) h0
  have bd0 := bounds_i64 wa0
  obtain ⟨A1, n1, c1, l1, rfl, hn1, hc1, hm1, hr1, hb1⟩ := open_numsL Try.underlying32 Try.underlying23 cells23 (hval 1 32 v1 rfl rfl) h1 (fun x hx => hlt x (by simp [hx]))
  unfold maxLen at hm1
  refine (lays_walk l1 A1 n1 c1 a0 W hn1 hr1 hc1 (by omega) hb1).mono fun e W' ⟨he, hb⟩ => ?_
  subst he
  exact ⟨_, rfl, law_post laid (by kernel_rfl) Try.underlying4 (by rw [Try.params4]; decide +kernel) rfl hW' ⟨rfl, rfl, rfl⟩ hb⟩

set_option maxRecDepth 100000 in
theorem lays_lifted (os : Os) (started : os.Started) (H : Type) (enc : TypeId × Value → H) :
    ReturnsInHanded {} Try.checked os 4 .any (Rows.fieldLaysSpec.pre6 enc Try.prog Try.f4 Rows.fieldLaysRow.domain false) (Rows.fieldLaysSpec.post enc Try.prog Try.f4 false true false false) := by
  refine returnsInHanded_of_change (C := Try.checked) own started (by kernel_rfl) Try.func4
    (ChangeSpec.witness6 (enc := enc) (C := Try.checked) false ⟨#[], #[.int .i64 0, .slice none 0 0], []⟩ 8 (by kernel_rfl) (by kernel_rfl) (by kernel_rfl) (by kernel_rfl)) ?_
  intro W base args ds gs before hval hW _ _
  exact lays_contract H enc W base args ds gs before hval hW

/-- FieldLays is true for every input. -/
theorem lays_holds : Rows.FieldLaysSaid :=
  OpenClaim.holds_of_wide 4 Try.f4 rfl rfl rfl rfl rfl rfl rfl ⟨rfl, rfl, rfl, rfl, rfl⟩ rfl rfl rfl rfl rfl (by kernel_rfl) Try.func4 (by kernel_rfl)
    (of_decide_eq_true (by kernel_rfl)) (by unfold Func.isWrapper; first | (rw [if_pos (by decide +kernel)]; kernel_rfl) | (rw [if_neg (by decide +kernel)]; exact ⟨rfl, rfl⟩))
    (fun os started H enc _ => lays_lifted os started H enc)
end Go.Proofs.Ytklhikekjfankaa
