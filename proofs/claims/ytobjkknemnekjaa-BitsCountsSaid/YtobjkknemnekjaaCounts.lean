/-
  BitsCounts: whatever the bytes and the two numbers, how many bits are 1 between them, the first one, and the list of them, are the document's.
-/
import Derived.Test.YtobjkknemnekjaaF
namespace Go.Proofs.Ytobjkknemnekjaa
open Go.ChangeShapes Go.WideShapes Go.ChangeAt Go.RowKit

set_option maxHeartbeats 800000 in
theorem counts_walk (l : List UInt8) (A : Option Addr) (n c : Nat) (x y : Int) (on : Bool) (w : World) (hn : l.length = n) (hr : Rd w w.heap.size A (bytesV l)) (hc : n ≤ c) (hm : n ≤ 9223372036854775807)
    (hx : x ≤ 9223372036854775807) :
    Calls Try.prog 4 #[.slice A n c, .int .i64 x, .int .i64 y, .bool on] w fun e w' => e = .returned (.bool true) ∧ Below w.heap.size w w' := by
  obtain ⟨k, hk⟩ : ∃ k, k = l.take 600 := ⟨_, rfl⟩
  obtain ⟨q, hq⟩ : ∃ q, q = min n 600 := ⟨_, rfl⟩
  have hkq : k.length = q := by rw [hk, List.length_take, hn, hq]; omega
  have hr6 : Rd w w.heap.size A (bytesV k) := by rw [hk, bytesV_take]; exact hr.take 600
  have hq6 : q ≤ 600 := by omega
  have few := fun w => few_any A n c w hc hm
  rw [← hq] at few
  have Few := Lib.hid few
  have Hk := Lib.hid hkq
  have HR := Lib.hid hr6
  clear hk hkq hr6 hn hr hq few
  obtain ⟨fi, fb, hF⟩ : ∃ (fi : Nat) (fb : Bool), fstV (fst k x y on (8 * k.length)) = .tuple #[.int .i64 (fi : Int), .bool fb] := ⟨_, _, rfl⟩
  have HF := Lib.hid hF
  clear hF
  go_enter Try.func4, Try.ntmps4
  go_wp2_with (first
    | (go_at_call 10; refine (Few.out _).mono ?_; rintro e w' ⟨rfl, rfl⟩)
    | (go_at_call 15; refine (first_any k A q c _ x y on _ Hk.out HR.out (by omega) hx).mono ?_; rintro e w1 ⟨rfl, m1, hw1⟩; rw [HF.out]; have HB1 := Lib.hid (by rw [hw1]; exact below_drewN (Below.refl _ _) m1 : Below w.heap.size w w1); clear hw1)
    | (go_at_call 16; refine (rfirst_any k A q c _ x y on _ Hk.out (HR.out.below HB1.out) (by omega)).mono ?_; rintro e w' ⟨rfl, rfl⟩; rw [HF.out])
    | (go_at_call 9; refine (shown_any _).mono ?_; rintro e w2 ⟨rfl, hb⟩; have HB2 := Lib.hid (HB1.out.trans (hb.mono HB1.out.size)); clear hb)
    | (go_at_call 17; refine (count_any k A q c _ x y _ Hk.out (HR.out.below HB2.out) (by omega) hx).mono ?_; rintro e w3 ⟨rfl, m3, hw3⟩; have HB3 := Lib.hid (by rw [hw3]; exact below_drewN HB2.out m3 : Below w.heap.size w w3); clear hw3)
    | (go_at_call 18; refine (rcount_any k A q c _ x y _ Hk.out (HR.out.below HB3.out) (by omega)).mono ?_; rintro e w' ⟨rfl, rfl⟩)
    | (go_at_call 20; refine (list_any k A q c _ Hk.out ((HR.out.below HB3.out).more HB3.out.size) (by omega)).mono ?_; rintro e w4 ⟨v4, rfl, hown4, hb4⟩; obtain ⟨hl4, A4, c4, rfl, _, _, hrd4⟩ := own_rd hown4; have HB4 := Lib.hid (HB3.out.trans (hb4.mono HB3.out.size)); have HR4 := Lib.hid hrd4; clear hb4 hown4 hrd4)
    | (go_at_call 21; refine (rlist_any k A q c _ Hk.out ((HR.out.below HB4.out).more HB4.out.size) (by omega)).mono ?_; rintro e w5 ⟨v5, rfl, hown5, hb5⟩; obtain ⟨hl5, A5, c5, rfl, _, _, hrd5⟩ := own_rd hown5; have HB5 := Lib.hid (HB4.out.trans (hb5.mono HB4.out.size)); have HR5 := Lib.hid hrd5; have HR4' := Lib.hid (HR4.out.below hb5); clear hb5 hown5 hrd5)
    | (go_at_call 19; refine (same_true (ones k) A4 A5 _ c4 c5 _ _ _ rfl HR4'.out HR5.out (by have := onesTo_len k (8 * k.length); rw [Hk.out] at this; unfold ones; rw [Hk.out]; omega)).mono ?_; rintro e w6 ⟨rfl, m6, hw6⟩; have HB6 := Lib.hid (by rw [hw6]; exact below_drewN HB5.out m6 : Below w.heap.size w w6); clear hw6))
  go_ret
  exact ⟨rfl, HB6.out⟩

theorem counts_contract (H : Type) (enc : TypeId × Value → H) (W : World) (base : Nat) (args : Array Value) (ds gs : List (DataW H)) (before : List MemPlace)
    (hval : ∀ (j : Nat) t v, Try.f4.params[j]? = some t → args[j]? = some v → Value.okWide Try.prog W .any base t v)
    (hW : DataW.Whole enc Try.prog Try.f4.params.toList Rows.bitsCountsSpec.vars false W args.toList ds gs before) :
    Calls Try.prog 4 args W fun e W' => ∃ v, e = .returned v ∧ Rows.bitsCountsSpec.post enc Try.prog Try.f4 false true false false W args v W' := by
  have hW' := hW
  have hlt : ∀ x ∈ before, x.block < W.heap.size := fun x hx => hW.lt x hx
  obtain ⟨p, q, hA0, hV, rfl, _, _⟩ := hW
  have hA : DataW.TrodAll enc Try.prog W 0 (fun _ => true) true Try.f4.params.toList args.toList ds p := hA0
  rw [Try.params4] at hA hval
  obtain ⟨v0, vs0, d0, ds0, p0, q0, hargs, rfl, rfl, h0, r0⟩ := trodAll_cons hA
  obtain ⟨v1, vs1, d1, ds1, p1, q1, rfl, rfl, rfl, h1, r1⟩ := trodAll_cons r0
  obtain ⟨v2, vs2, d2, ds2, p2, q2, rfl, rfl, rfl, h2, r2⟩ := trodAll_cons r1
  obtain ⟨v3, vs3, d3, ds3, p3, q3, rfl, rfl, rfl, h3, r3⟩ := trodAll_cons r2
  obtain ⟨rfl, rfl, rfl⟩ := trodAll_nil r3
  obtain rfl : args = #[v0, v1, v2, v3] := by cases args; simp_all
  obtain ⟨rfl, rfl⟩ := trodVars_none hV
  clear hA0
  obtain ⟨A0, n0, c0, l0, rfl, hn0, hc0, hm0, hr0⟩ := open_bytesL Try.underlying22 Try.underlying5 cells5 (hval 0 22 v0 rfl rfl) h0 (fun x hx => hlt x (by simp [hx]))
  unfold maxLen at hm0
  obtain ⟨a1, rfl, rfl, rfl, wa1⟩ := open_int Try.underlying3 (hval 1 3 v1 rfl rfl) h1
  have bd1 := bounds_i64 wa1
  obtain ⟨a2, rfl, rfl, rfl, wa2⟩ := open_int Try.underlying3 (hval 2 3 v2 rfl rfl) h2
  have bd2 := bounds_i64 wa2
  obtain ⟨b3, rfl, rfl, rfl⟩ := open_bool Try.underlying4 (hval 3 4 v3 rfl rfl) h3
  refine (counts_walk l0 A0 n0 c0 a1 a2 b3 W hn0 hr0 hc0 (by omega) (by omega)).mono fun e W' ⟨he, hb⟩ => ?_
  subst he
  exact ⟨_, rfl, law_post laid (by kernel_rfl) Try.underlying4 (by rw [Try.params4]; decide +kernel) rfl hW' ⟨rfl, rfl, rfl⟩ hb⟩

set_option maxRecDepth 100000 in
theorem counts_lifted (os : Os) (started : os.Started) (H : Type) (enc : TypeId × Value → H) :
    ReturnsInHanded {} Try.checked os 4 .any (Rows.bitsCountsSpec.pre6 enc Try.prog Try.f4 Rows.bitsCountsRow.domain false) (Rows.bitsCountsSpec.post enc Try.prog Try.f4 false true false false) := by
  refine returnsInHanded_of_change (C := Try.checked) own started (by kernel_rfl) Try.func4
    (ChangeSpec.witness6 (enc := enc) (C := Try.checked) false ⟨#[], #[.slice none 0 0, .int .i64 0, .int .i64 0, .bool false], []⟩ 8 (by kernel_rfl) (by kernel_rfl) (by kernel_rfl) (by kernel_rfl)) ?_
  intro W base args ds gs before hval hW _ _
  exact counts_contract H enc W base args ds gs before hval hW

/-- BitsCounts is true for every input. -/
theorem counts_holds : Rows.BitsCountsSaid :=
  OpenClaim.holds_of_wide 4 Try.f4 rfl rfl rfl rfl rfl rfl rfl ⟨rfl, rfl, rfl, rfl, rfl⟩ rfl rfl rfl rfl rfl (by kernel_rfl) Try.func4 (by kernel_rfl)
    (of_decide_eq_true (by kernel_rfl)) (by unfold Func.isWrapper; first | (rw [if_pos (by decide +kernel)]; kernel_rfl) | (rw [if_neg (by decide +kernel)]; exact ⟨rfl, rfl⟩))
    (fun os started H enc _ => counts_lifted os started H enc)
end Go.Proofs.Ytobjkknemnekjaa
