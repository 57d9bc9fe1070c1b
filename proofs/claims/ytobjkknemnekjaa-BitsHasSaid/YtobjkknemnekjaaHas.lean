/-
  BitsHas: whatever the bytes and the bit, whether it is 1, and the bytes with another bit, are the document's, and With's bytes are new memory.
-/
import Derived.Test.YtobjkknemnekjaaF
namespace Go.Proofs.Ytobjkknemnekjaa
open Go.ChangeShapes Go.WideShapes Go.ChangeAt Go.RowKit

/-- While With's bytes are changed: they stay bytes of their own, and nothing that was there at the call is changed. -/
def Turning (w : World) (v : Value) (n : Nat) (wr : World) : Prop := (∃ ys : List UInt8, wr.ownsRow w.heap.size 5 1 v n (bytesV ys)) ∧ Below w.heap.size w wr
theorem turning_cell {w wr : World} {g n c : Nat} (h : Turning w (.slice (some ⟨g, 0, none⟩) n c) n wr) (j : Nat) (hj : j < n) :
    ∃ y : UInt8, wr.cell? ⟨g, j, none⟩ = some (.int .u8 (y.toNat : Int)) ∧ wr.frozen? ⟨g, j, none⟩ = false ∧
      Turning w (.slice (some ⟨g, 0, none⟩) n c) n (wr.setCell ⟨g, j, none⟩ (.int .u8 (bits .xor .u8 (y.toNat : Int) 85))) := by
  obtain ⟨⟨ys, hown⟩, hb⟩ := h
  have hl : ys.length = n := by have := hown.1; rw [length_bytesV] at this; omega
  have hc := hown.cellAt j (by omega)
  rw [List.getElem?_eq_getElem (by rw [length_bytesV]; omega)] at hc
  refine ⟨ys[j], by rw [hc]; simp [bytesV, byteV], hown.frozenAt j, ⟨ys.set j (ys[j] ^^^ 85), ?_⟩, hb.setCell (hown.lt g rfl).1 _⟩
  have h1 := hown.stored j (byteV (ys[j] ^^^ 85))
  have e : bits .xor .u8 (ys[j].toNat : Int) 85 = ((ys[j] ^^^ 85).toNat : Int) := by
    have := u8_xor_nat ys[j].toNat 85 ys[j].toNat_lt (by decide)
    rw [UInt8.toNat_xor]
    exact this
  rw [e]
  have e2 : (bytesV ys).set j (byteV (ys[j] ^^^ 85)) = bytesV (ys.set j (ys[j] ^^^ 85)) := by simp [bytesV, List.map_set]
  rw [e2] at h1
  exact h1.1

theorem str_nil (W : World) : (convert 22 9 (.slice none 0 0)).run Try.prog W = .ok (.string ⟨#[]⟩) W := run_str W 22 9 5 Try.underlying22 Try.underlying5 Try.underlying9 0 none 0 0 [] rfl (.inl rfl)

set_option maxHeartbeats 800000 in
/-- With refuses, and so does the document's. -/
theorem has_bad (k : List UInt8) (A : Option Addr) (n c q : Nat) (x er : Int) (on : Bool) (w : World) (hkq : k.length = q) (hq6 : q ≤ 600) (hr : Rd w w.heap.size A (bytesV k))
    (Few : Hid (∀ w, Calls Try.prog 10 #[.slice A n c] w fun e w' => e = .returned (.slice A q c) ∧ w = w'))
    (HW : Hid (∀ w, Calls Try.prog 11 #[.slice A q c, .int .i64 x, .bool on] w fun e w' => e = .returned (.tuple #[.slice none 0 0, .int .i64 er]) ∧ w = w'))
    (HV : Hid (∀ w, Calls Try.prog 12 #[.slice A q c, .int .i64 x, .bool on] w fun e w' => e = .returned (.tuple #[.slice none 0 0, .int .i64 er]) ∧ w = w')) :
    Calls Try.prog 3 #[.slice A n c, .int .i64 x, .bool on] w fun e w' => e = .returned (.bool true) ∧ Below w.heap.size w w' := by
  have Hk := Lib.hid hkq
  have HR := Lib.hid hr
  have hnil := str_nil
  clear hkq hr
  go_enter Try.func3, Try.ntmps3
  go_wp2_with (first
    | (go_at_call 9; refine (shown_any _).mono ?_; rintro e w1 ⟨rfl, hb1⟩; have HB1 := Lib.hid hb1; have hcv := str_fact (c := c) HR.out hb1 Hk.out; clear hb1)
    | (go_at_call 10; refine (Few.out _).mono ?_; rintro e w' ⟨rfl, rfl⟩)
    | (go_at_call 11; refine (HW.out _).mono ?_; rintro e w' ⟨rfl, rfl⟩)
    | (go_at_call 12; refine (HV.out _).mono ?_; rintro e w' ⟨rfl, rfl⟩)
    | (go_at_call 13; refine (has_any k A q c _ x _ Hk.out (HR.out.below HB1.out) (by omega)).mono ?_; rintro e w2 ⟨rfl, m2, hw2⟩; have HB2 := Lib.hid (by rw [hw2]; exact below_drewN HB1.out m2 : Below w.heap.size w w2); have hcv2 := str_fact (c := c) HR.out HB2.out Hk.out; clear hw2)
    | (go_at_call 14; refine (rhas_any k A q c _ x _ Hk.out (HR.out.below HB2.out) (by omega)).mono ?_; rintro e w' ⟨rfl, rfl⟩))
  go_loop [56] (fun i => i = .int .i64 0) (fun _ => 0)
  case atStart => rfl
  case round =>
    obtain rfl := hrel
    go_wp2
    go_ret
    exact ⟨rfl, HB2.out⟩

set_option maxHeartbeats 800000 in
theorem has_ok (k : List UInt8) (A : Option Addr) (n c q i : Nat) (on : Bool) (w : World) (hkq : k.length = q) (hq6 : q ≤ 512) (hr : Rd w w.heap.size A (bytesV k))
    (Few : Hid (∀ w, Calls Try.prog 10 #[.slice A n c] w fun e w' => e = .returned (.slice A q c) ∧ w = w')) (h : i < 8 * q) :
    Calls Try.prog 3 #[.slice A n c, .int .i64 (i : Int), .bool on] w fun e w' => e = .returned (.bool true) ∧ Below w.heap.size w w' := by
  have Hk := Lib.hid hkq
  have HR := Lib.hid hr
  obtain ⟨K, hK⟩ : ∃ K, K = wb k i on := ⟨_, rfl⟩
  have HK := Lib.hid hK
  have HKl : Hid (K.length = q) := Lib.hid (by rw [hK, length_wb, hkq])
  clear hkq hr hK
  go_enter Try.func3, Try.ntmps3
  go_wp2_with (first
    | (go_at_call 9; refine (shown_any _).mono ?_; rintro e w1 ⟨rfl, hb1⟩; have HB1 := Lib.hid hb1; have hcv := str_fact (c := c) HR.out hb1 Hk.out; clear hb1)
    | (go_at_call 10; refine (Few.out _).mono ?_; rintro e w' ⟨rfl, rfl⟩)
    | (go_at_call 11; refine (with_ok k A q c i on _ Hk.out ((HR.out.below HB1.out).more HB1.out.size) h hq6).mono ?_; rintro e w2 ⟨v2, rfl, hown2, hb2⟩; rw [← HK.out, HKl.out] at hown2; obtain ⟨g2, c2, rfl, hc2⟩ := own_pos hown2 (by omega); have HO2 := Lib.hid hown2; have HB2 := Lib.hid (HB1.out.trans (hb2.mono HB1.out.size)); have HS := Lib.hid HB1.out.size; clear hb2 hown2)
    | (go_at_call 12; refine (rwith_ok k A q c i on _ Hk.out ((HR.out.below HB2.out).more HB2.out.size) h hq6).mono ?_; rintro e w3 ⟨v3, rfl, hown3, hb3⟩; rw [← HK.out, HKl.out] at hown3; obtain ⟨g3, c3, rfl, hc3⟩ := own_pos hown3 (by omega); have HR3 := Lib.hid (own_rdp hown3); have HO3 := Lib.hid (own_below HO2.out hb3); have HB3 := Lib.hid (HB2.out.trans (hb3.mono HB2.out.size)); clear hb3 hown3)
    | (go_at_call 13; refine (has_any k A q c _ i _ Hk.out (HR.out.below HB3.out) (by omega)).mono ?_; rintro e w4 ⟨rfl, m4, hw4⟩; have HB4 := Lib.hid (by rw [hw4]; exact below_drewN HB3.out m4 : Below w.heap.size w w4); have hr4 : Rd w4 w3.heap.size (some ⟨g3, 0, none⟩) (bytesV K) := (by rw [hw4]; exact HR3.out.drewN m4); have HO4 := Lib.hid (by rw [hw4]; exact HO3.out : w4.ownsRow w1.heap.size 5 1 (.slice (some ⟨g2, 0, none⟩) q c2) q (bytesV K)); have hr4' := own_rdp HO4.out; have hcv2 := str_fact (c := c2) hr4' (Below.refl _ _) HKl.out; have hcv3 := str_fact (c := c3) hr4 (Below.refl _ _) HKl.out; clear hw4 hr4 hr4')
    | (go_at_call 14; refine (rhas_any k A q c _ i _ Hk.out (HR.out.below HB4.out) (by omega)).mono ?_; rintro e w' ⟨rfl, rfl⟩))
  have hturn : Turning w (.slice (some ⟨g2, 0, none⟩) q c2) q w4 := ⟨⟨_, own_mono HO4.out HS.out⟩, HB4.out⟩
  clear hcv hcv2 hcv3
  go_loopw [56] (fun z wr => ∃ j : Nat, j ≤ q ∧ z = .int .i64 j ∧ Turning w (.slice (some ⟨g2, 0, none⟩) q c2) q wr) (fun z _ => q - (intOf z).toNat)
  case atStart => exact ⟨0, Nat.zero_le _, rfl, hturn⟩
  case round =>
    obtain ⟨j, hj, rfl, ht⟩ := hrel
    by_cases hlt : j < q
    · obtain ⟨y, hcell, hfr, ht2⟩ := turning_cell ht j hlt
      clear ht hturn
      go_wp2
      go_roundw
      case rel => exact ⟨j + 1, by omega, by go_num, ht2⟩
      case measure => simp [intOf]; omega
    · have hcv := str_fact (c := c) HR.out ht.2 Hk.out
      have hbw := ht.2
      clear ht hturn
      go_wp2
      go_ret
      exact ⟨rfl, hbw⟩

theorem has_walk (l : List UInt8) (A : Option Addr) (n c : Nat) (x : Int) (on : Bool) (w : World) (hn : l.length = n) (hr : Rd w w.heap.size A (bytesV l)) (hc : n ≤ c) (hm : n ≤ 9223372036854775807) :
    Calls Try.prog 3 #[.slice A n c, .int .i64 x, .bool on] w fun e w' => e = .returned (.bool true) ∧ Below w.heap.size w w' := by
  have hr6 := hr.take 600
  rw [← bytesV_take] at hr6
  have hkq : (l.take 600).length = min n 600 := by rw [List.length_take, hn]; omega
  have Few := Lib.hid (fun w => few_any A n c w hc hm)
  generalize l.take 600 = k at *
  obtain ⟨q, hq⟩ : ∃ q, q = min n 600 := ⟨_, rfl⟩
  rw [← hq] at hkq Few
  have hq6 : q ≤ 600 := by omega
  by_cases h : 0 ≤ x ∧ x < 8 * (q : Int)
  · obtain ⟨i, rfl⟩ := Int.eq_ofNat_of_zero_le h.1
    by_cases h5 : q ≤ 512
    · exact has_ok k A n c q i on w hkq h5 hr6 Few (by omega)
    · exact has_bad k A n c q i 4 on w hkq hq6 hr6 Few (Lib.hid fun w => with_long A q c i on w (by omega) (by omega) (by omega)) (Lib.hid fun w => rwith_long A q c i on w (by omega) (by omega) (by omega))
  · exact has_bad k A n c q x 1 on w hkq hq6 hr6 Few (Lib.hid fun w => with_arg A q c x on w (by omega) h) (Lib.hid fun w => rwith_arg A q c x on w (by omega) h)

theorem has_contract (H : Type) (enc : TypeId × Value → H) (W : World) (base : Nat) (args : Array Value) (ds gs : List (DataW H)) (before : List MemPlace)
    (hval : ∀ (j : Nat) t v, Try.f3.params[j]? = some t → args[j]? = some v → Value.okWide Try.prog W .any base t v)
    (hW : DataW.Whole enc Try.prog Try.f3.params.toList Rows.bitsHasSpec.vars false W args.toList ds gs before) :
    Calls Try.prog 3 args W fun e W' => ∃ v, e = .returned v ∧ Rows.bitsHasSpec.post enc Try.prog Try.f3 false true false false W args v W' := by
  have hW' := hW
  have hlt : ∀ x ∈ before, x.block < W.heap.size := fun x hx => hW.lt x hx
  obtain ⟨p, q, hA0, hV, rfl, _, _⟩ := hW
  have hA : DataW.TrodAll enc Try.prog W 0 (fun _ => true) true Try.f3.params.toList args.toList ds p := hA0
  rw [Try.params3] at hA hval
  obtain ⟨v0, vs0, d0, ds0, p0, q0, hargs, rfl, rfl, h0, r0⟩ := trodAll_cons hA
  obtain ⟨v1, vs1, d1, ds1, p1, q1, rfl, rfl, rfl, h1, r1⟩ := trodAll_cons r0
  obtain ⟨v2, vs2, d2, ds2, p2, q2, rfl, rfl, rfl, h2, r2⟩ := trodAll_cons r1
  obtain ⟨rfl, rfl, rfl⟩ := trodAll_nil r2
  obtain rfl : args = #[v0, v1, v2] := by cases args; simp_all
  obtain ⟨rfl, rfl⟩ := trodVars_none hV
  clear hA0
  obtain ⟨A0, n0, c0, l0, rfl, hn0, hc0, hm0, hr0⟩ := open_bytesL Try.underlying22 Try.underlying5 cells5 (hval 0 22 v0 rfl rfl) h0 (fun x hx => hlt x (by simp [hx]))
  unfold maxLen at hm0
  obtain ⟨a1, rfl, rfl, rfl, wa1⟩ := open_int Try.underlying3 (hval 1 3 v1 rfl rfl) h1
  have bd1 := bounds_i64 wa1
  obtain ⟨b2, rfl, rfl, rfl⟩ := open_bool Try.underlying4 (hval 2 4 v2 rfl rfl) h2
  refine (has_walk l0 A0 n0 c0 a1 b2 W hn0 hr0 hc0 (by omega)).mono fun e W' ⟨he, hb⟩ => ?_
  subst he
  exact ⟨_, rfl, law_post laid (by kernel_rfl) Try.underlying4 (by rw [Try.params3]; decide +kernel) rfl hW' ⟨rfl, rfl, rfl⟩ hb⟩

set_option maxRecDepth 100000 in
theorem has_lifted (os : Os) (started : os.Started) (H : Type) (enc : TypeId × Value → H) :
    ReturnsInHanded {} Try.checked os 3 .any (Rows.bitsHasSpec.pre6 enc Try.prog Try.f3 Rows.bitsHasRow.domain false) (Rows.bitsHasSpec.post enc Try.prog Try.f3 false true false false) := by
  refine returnsInHanded_of_change (C := Try.checked) own started (by kernel_rfl) Try.func3
    (ChangeSpec.witness6 (enc := enc) (C := Try.checked) false ⟨#[], #[.slice none 0 0, .int .i64 0, .bool false], []⟩ 8 (by kernel_rfl) (by kernel_rfl) (by kernel_rfl) (by kernel_rfl)) ?_
  intro W base args ds gs before hval hW _ _
  exact has_contract H enc W base args ds gs before hval hW

/-- BitsHas is true for every input. -/
theorem has_holds : Rows.BitsHasSaid :=
  OpenClaim.holds_of_wide 3 Try.f3 rfl rfl rfl rfl rfl rfl rfl ⟨rfl, rfl, rfl, rfl, rfl⟩ rfl rfl rfl rfl rfl (by kernel_rfl) Try.func3 (by kernel_rfl)
    (of_decide_eq_true (by kernel_rfl)) (by unfold Func.isWrapper; first | (rw [if_pos (by decide +kernel)]; kernel_rfl) | (rw [if_neg (by decide +kernel)]; exact ⟨rfl, rfl⟩))
    (fun os started H enc _ => has_lifted os started H enc)
end Go.Proofs.Ytobjkknemnekjaa
