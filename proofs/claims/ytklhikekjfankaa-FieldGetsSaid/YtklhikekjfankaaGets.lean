/-
  FieldGets: whatever the bytes, the place, the size and the number, Get's number and error and Set's bytes and error are the document's, and Set's bytes are new memory.
-/
import Derived.Test.YtklhikekjfankaaF
namespace Go.Proofs.Ytklhikekjfankaa
open Go.ChangeShapes Go.WideShapes Go.ChangeAt Go.RowKit

theorem gets_arg (l : List UInt8) (A : Option Addr) (n c : Nat) (at_ size x : Int) (w : World) (hn : l.length = n) (hr : Rd w w.heap.size A (bytesV l)) (hc : n ≤ c) (hm : n ≤ 9223372036854775807)
    (h : ¬ (1 ≤ size ∧ size ≤ 8 ∧ 0 ≤ at_ ∧ at_ ≤ (min n 5000 : Nat) - size)) :
    Calls Try.prog 3 #[.slice A n c, .int .i64 at_, .int .i64 size, .int .u64 x] w fun e w' => e = .returned (.bool true) ∧ Below w.heap.size w w' := by
  have H := Lib.hid (few_len l n hn)
  have hr5 := hr.take 5000
  rw [← bytesV_take] at hr5
  obtain ⟨k, hk⟩ : ∃ k, k = l.take 5000 := ⟨_, rfl⟩
  rw [← hk] at H hr5
  have hnil := str_nil
  have Hh := Lib.hid h
  clear hn hr hk h
  go_enter Try.func3, Try.ntmps3
  go_wp2_with (first
    | (go_at_call 10; refine (shown_any _).mono ?_; rintro e w1 ⟨rfl, hb1⟩; have hcv := str_fact (c := c) hr5 hb1 H.out)
    | (go_at_call 11; refine (few_any _ _ _ _ hc hm).mono ?_; rintro e w' ⟨rfl, rfl⟩)
    | (go_at_call 12; refine (get_arg _ _ _ _ _ _ Hh.out (by omega)).mono ?_; rintro e w' ⟨rfl, rfl⟩)
    | (go_at_call 13; refine (rget_arg _ _ _ _ _ _ Hh.out (by omega)).mono ?_; rintro e w' ⟨rfl, rfl⟩)
    | (go_at_call 14; refine (set_arg _ _ _ _ _ _ _ Hh.out (by omega)).mono ?_; rintro e w' ⟨rfl, rfl⟩)
    | (go_at_call 15; refine (rset_arg _ _ _ _ _ _ _ Hh.out (by omega)).mono ?_; rintro e w' ⟨rfl, rfl⟩))
  go_loop [69] (fun k => k = .int .i64 0) (fun _ => 0)
  case atStart => rfl
  case round =>
    obtain rfl := hrel
    go_wp2
    go_ret
    exact ⟨rfl, hb1⟩

theorem gets_long (l : List UInt8) (A : Option Addr) (n c at_ size x : Nat) (w : World) (hn : l.length = n) (hr : Rd w w.heap.size A (bytesV l)) (hc : n ≤ c) (hm : n ≤ 9223372036854775807)
    (hs1 : 1 ≤ size) (hs8 : size ≤ 8) (hs : at_ + size ≤ min n 5000) (hx : x < 18446744073709551616) (hf : fitB x size = false) :
    Calls Try.prog 3 #[.slice A n c, .int .i64 at_, .int .i64 size, .int .u64 x] w fun e w' => e = .returned (.bool true) ∧ Below w.heap.size w w' := by
  have H := Lib.hid (few_len l n hn)
  have hr5 := hr.take 5000
  rw [← bytesV_take] at hr5
  obtain ⟨k, hk⟩ : ∃ k, k = l.take 5000 := ⟨_, rfl⟩
  rw [← hk] at H hr5
  have hnil := str_nil
  have Hf := Lib.hid hf
  have hmc : min n 5000 ≤ c := by omega
  clear hn hr hk hf
  go_enter Try.func3, Try.ntmps3
  go_wp2_with (first
    | (go_at_call 10; refine (shown_any _).mono ?_; rintro e w1 ⟨rfl, hb1⟩; have hcv := str_fact (c := c) hr5 hb1 H.out; have hr6 := hr5.below hb1)
    | (go_at_call 11; refine (few_any _ _ _ _ hc hm).mono ?_; rintro e w' ⟨rfl, rfl⟩)
    | (go_at_call 12; refine (get_ok k A _ c _ at_ size _ H.out hr6 hmc hs hs8 hs1 (by omega)).mono ?_; rintro e w' ⟨rfl, rfl⟩)
    | (go_at_call 13; refine (rget_ok k A _ c _ at_ size _ H.out hr6 hs hs8 hs1 (by omega)).mono ?_; rintro e w' ⟨rfl, rfl⟩)
    | (go_at_call 14; refine (set_long _ _ _ at_ size x _ hs hs8 hs1 (by omega) hx Hf.out).mono ?_; rintro e w' ⟨rfl, rfl⟩)
    | (go_at_call 15; refine (rset_long _ _ _ at_ size x _ hs hs8 hs1 (by omega) hx Hf.out).mono ?_; rintro e w' ⟨rfl, rfl⟩))
  go_loop [69] (fun k => k = .int .i64 0) (fun _ => 0)
  case atStart => rfl
  case round =>
    obtain rfl := hrel
    go_wp2
    go_ret
    exact ⟨rfl, hb1⟩

/-- While Set's bytes are changed: they stay bytes of their own, and nothing that was there at the call is changed. -/
def Turning (w w2 : World) (v : Value) (n : Nat) (wr : World) : Prop := (∃ ys : List UInt8, wr.ownsRow w.heap.size 5 1 v n (bytesV ys)) ∧ Below w.heap.size w wr ∧ w2.heap.size ≤ wr.heap.size

theorem turning_cell {w w2 wr : World} {g n c : Nat} (h : Turning w w2 (.slice (some ⟨g, 0, none⟩) n c) n wr) (j : Nat) (hj : j < n) :
    ∃ y : UInt8, wr.cell? ⟨g, j, none⟩ = some (.int .u8 (y.toNat : Int)) ∧ wr.frozen? ⟨g, j, none⟩ = false ∧
      Turning w w2 (.slice (some ⟨g, 0, none⟩) n c) n (wr.setCell ⟨g, j, none⟩ (.int .u8 (bits .xor .u8 (y.toNat : Int) 85))) := by
  obtain ⟨⟨ys, hown⟩, hb, hz⟩ := h
  have hl : ys.length = n := by have := hown.1; rw [length_bytesV] at this; omega
  have hc := hown.cellAt j (by omega)
  rw [List.getElem?_eq_getElem (by rw [length_bytesV]; omega)] at hc
  refine ⟨ys[j], by rw [hc]; simp [bytesV, byteV], hown.frozenAt j, ⟨ys.set j (ys[j] ^^^ 85), ?_⟩, hb.setCell (hown.lt g rfl).1 _, by simpa [World.setCell] using hz⟩
  have h1 := hown.stored j (byteV (ys[j] ^^^ 85))
  have e : bits .xor .u8 (ys[j].toNat : Int) 85 = ((ys[j] ^^^ 85).toNat : Int) := by
    have := u8_xor_nat ys[j].toNat 85 ys[j].toNat_lt (by decide)
    rw [UInt8.toNat_xor]
    exact this
  rw [e]
  have e2 : (bytesV ys).set j (byteV (ys[j] ^^^ 85)) = bytesV (ys.set j (ys[j] ^^^ 85)) := by simp [bytesV, List.map_set]
  rw [e2] at h1
  exact h1.1

set_option maxHeartbeats 800000 in
theorem gets_ok (l : List UInt8) (A : Option Addr) (n c at_ size x : Nat) (w : World) (hn : l.length = n) (hr : Rd w w.heap.size A (bytesV l)) (hc : n ≤ c) (hm : n ≤ 9223372036854775807)
    (hs1 : 1 ≤ size) (hs8 : size ≤ 8) (hs : at_ + size ≤ min n 5000) (hx : x < 18446744073709551616) (hf : fitB x size = true) :
    Calls Try.prog 3 #[.slice A n c, .int .i64 at_, .int .i64 size, .int .u64 x] w fun e w' => e = .returned (.bool true) ∧ Below w.heap.size w w' := by
  have H := Lib.hid (few_len l n hn)
  have hr5 := hr.take 5000
  rw [← bytesV_take] at hr5
  obtain ⟨k, hk⟩ : ∃ k, k = l.take 5000 := ⟨_, rfl⟩
  rw [← hk] at H hr5
  have Hf := Lib.hid hf
  have hmc : min n 5000 ≤ c := by omega
  have Hp := Lib.hid (show (put k at_ (digs x size)).length = min n 5000 by rw [length_put _ _ _ (by rw [length_digs, H.out]; omega), H.out])
  clear hn hr hk hf
  obtain ⟨m, hme⟩ : ∃ m, m = min n 5000 := ⟨_, rfl⟩
  have hm5 : m ≤ 5000 := by omega
  have hm1 : 0 < m := by omega
  have few := fun w => few_any A n c w hc hm
  rw [← hme] at H hs hmc Hp few
  have Few := Lib.hid few
  clear hme few
  go_enter Try.func3, Try.ntmps3
  go_wp2_with (first
    | (go_at_call 10; refine (shown_any _).mono ?_; rintro e w1 ⟨rfl, hb1⟩; have hcv := str_fact (c := c) hr5 hb1 H.out; have hr6 := (hr5.below hb1).more hb1.size)
    | (go_at_call 11; refine (Few.out _).mono ?_; rintro e w' ⟨rfl, rfl⟩)
    | (go_at_call 12; refine (get_ok k A _ c _ at_ size _ H.out hr6 hmc hs hs8 hs1 (by omega)).mono ?_; rintro e w' ⟨rfl, rfl⟩)
    | (go_at_call 13; refine (rget_ok k A _ c _ at_ size _ H.out hr6 hs hs8 hs1 (by omega)).mono ?_; rintro e w' ⟨rfl, rfl⟩)
    | (go_at_call 14; refine (set_ok k A _ c at_ size x _ H.out hr6 hs hs8 hs1 (by omega) hx Hf.out).mono ?_; rintro e w2 ⟨v1, rfl, hown1, hb2⟩; rw [Hp.out] at hown1; obtain ⟨g1, c1, rfl, hc1⟩ := own_pos hown1 hm1; have hrd1 := own_rdp hown1; have hr7 := (hr6.below hb2).more hb2.size)
    | (go_at_call 15; refine (rset_ok k A _ c at_ size x _ H.out hmc hr7 hs hs8 hs1 (by omega) hx Hf.out).mono ?_; rintro e w3 ⟨v2, rfl, hown2, hb3⟩; rw [Hp.out] at hown2; obtain ⟨g2, c2, rfl, hc2⟩ := own_pos hown2 hm1; have hrd2 := own_rdp hown2; have hcv1 := str_fact (c := c1) hrd1 hb3 Hp.out; have hcv2 := str_fact (c := c2) hrd2 (Below.refl _ _) Hp.out))
  have hb13 : Below w.heap.size w w3 := (hb1.trans (hb2.mono hb1.size)).trans (hb3.mono (Nat.le_trans hb1.size hb2.size))
  have hturn : Turning w w3 (.slice (some ⟨g1, 0, none⟩) m c1) m w3 := ⟨⟨_, own_mono (own_below hown1 hb3) hb1.size⟩, hb13, Nat.le_refl _⟩
  clear hown1 hown2 hrd1 hrd2 hcv1 hcv2 hcv hr6 hr7
  go_loopw [69] (fun k wr => ∃ j : Nat, j ≤ m ∧ k = .int .i64 j ∧ Turning w w3 (.slice (some ⟨g1, 0, none⟩) m c1) m wr) (fun k _ => m - (intOf k).toNat)
  case atStart => exact ⟨0, Nat.zero_le _, rfl, hturn⟩
  case round =>
    obtain ⟨j, hj, rfl, ht⟩ := hrel
    by_cases hlt : j < m
    · obtain ⟨y, hcell, hfr, ht2⟩ := turning_cell ht j hlt
      clear ht hturn
      go_wp2
      go_roundw
      case rel => exact ⟨j + 1, by omega, by go_num, ht2⟩
      case measure => simp [intOf]; omega
    · have hcv := str_fact (c := c) hr5 ht.2.1 H.out
      have hbw := ht.2.1
      clear ht hturn
      go_wp2
      go_ret
      exact ⟨rfl, hbw⟩

theorem gets_walk (l : List UInt8) (A : Option Addr) (n c : Nat) (at_ size x : Int) (w : World) (hn : l.length = n) (hr : Rd w w.heap.size A (bytesV l)) (hc : n ≤ c) (hm : n ≤ 9223372036854775807)
    (hx0 : 0 ≤ x) (hx : x < 18446744073709551616) :
    Calls Try.prog 3 #[.slice A n c, .int .i64 at_, .int .i64 size, .int .u64 x] w fun e w' => e = .returned (.bool true) ∧ Below w.heap.size w w' := by
  by_cases h : 1 ≤ size ∧ size ≤ 8 ∧ 0 ≤ at_ ∧ at_ ≤ (min n 5000 : Nat) - size
  · obtain ⟨h1, h2, h3, h4⟩ := h
    obtain ⟨a, rfl⟩ := Int.eq_ofNat_of_zero_le h3
    obtain ⟨k, rfl⟩ := Int.eq_ofNat_of_zero_le (show 0 ≤ size by omega)
    obtain ⟨y, rfl⟩ := Int.eq_ofNat_of_zero_le hx0
    cases hf : fitB y k with
    | true => exact gets_ok l A n c a k y w hn hr hc hm (by omega) (by omega) (by omega) (by omega) hf
    | false => exact gets_long l A n c a k y w hn hr hc hm (by omega) (by omega) (by omega) (by omega) hf
  · exact gets_arg l A n c at_ size x w hn hr hc hm h

theorem gets_contract (H : Type) (enc : TypeId × Value → H) (W : World) (base : Nat) (args : Array Value) (ds gs : List (DataW H)) (before : List MemPlace)
    (hval : ∀ (j : Nat) t v, Try.f3.params[j]? = some t → args[j]? = some v → Value.okWide Try.prog W .any base t v)
    (hW : DataW.Whole enc Try.prog Try.f3.params.toList Rows.fieldGetsSpec.vars false W args.toList ds gs before) :
    Calls Try.prog 3 args W fun e W' => ∃ v, e = .returned v ∧ Rows.fieldGetsSpec.post enc Try.prog Try.f3 false true false false W args v W' := by
  have hW' := hW
  have hlt : ∀ x ∈ before, x.block < W.heap.size := fun x hx => hW.lt x hx
  obtain ⟨p, q, hA0, hV, rfl, _, _⟩ := hW
  have hA : DataW.TrodAll enc Try.prog W 0 (fun _ => true) true Try.f3.params.toList args.toList ds p := hA0
  rw [Try.params3] at hA hval
  obtain ⟨v0, vs0, d0, ds0, p0, q0, hargs, rfl, rfl, h0, r0⟩ := trodAll_cons hA
  obtain ⟨v1, vs1, d1, ds1, p1, q1, rfl, rfl, rfl, h1, r1⟩ := trodAll_cons r0
  obtain ⟨v2, vs2, d2, ds2, p2, q2, rfl, rfl, rfl, h2, r2⟩ := trodAll_cons r1
  obtain ⟨v3, vs3, d3, ds3, p3, q3, rfl, rfl, rfl, h3, r3⟩ := trodAll_cons r2
  obtain ⟨rfl, rfl, rfl⟩ := trodAll_nil r3
  obtain rfl : args = #[v0, v1, v2, v3] := by cases args; simp_all
  obtain ⟨rfl, rfl⟩ := trodVars_none hV
  clear hA0
  obtain ⟨A0, n0, c0, l0, rfl, hn0, hc0, hm0, hr0⟩ := open_bytesL Try.underlying22 Try.underlying5 cells5 (hval 0 22 v0 rfl rfl) h0 (fun x hx => hlt x (by simp [hx]))
  unfold maxLen at hm0
  obtain ⟨a1, rfl, rfl, rfl, wa1⟩ := open_int Try.underlying3 (hval 1 3 v1 rfl rfl) h1
  have bd1 := bounds_i64 wa1
  obtain ⟨a2, rfl, rfl, rfl, wa2⟩ := open_int Try.underlying3 (hval 2 3 v2 rfl rfl) h2
  have bd2 := bounds_i64 wa2
  obtain ⟨a3, rfl, rfl, rfl, wa3⟩ := open_int Try.underlying23 (hval 3 23 v3 rfl rfl) h3
  have bd3 := bounds_u64 wa3
  refine (gets_walk l0 A0 n0 c0 a1 a2 a3 W hn0 hr0 hc0 (by omega) (by omega) (by omega)).mono fun e W' ⟨he, hb⟩ => ?_
  subst he
  exact ⟨_, rfl, law_post laid (by kernel_rfl) Try.underlying4 (by rw [Try.params3]; decide +kernel) rfl hW' ⟨rfl, rfl, rfl⟩ hb⟩

set_option maxRecDepth 100000 in
theorem gets_lifted (os : Os) (started : os.Started) (H : Type) (enc : TypeId × Value → H) :
    ReturnsInHanded {} Try.checked os 3 .any (Rows.fieldGetsSpec.pre6 enc Try.prog Try.f3 Rows.fieldGetsRow.domain false) (Rows.fieldGetsSpec.post enc Try.prog Try.f3 false true false false) := by
  refine returnsInHanded_of_change (C := Try.checked) own started (by kernel_rfl) Try.func3
    (ChangeSpec.witness6 (enc := enc) (C := Try.checked) false ⟨#[], #[.slice none 0 0, .int .i64 0, .int .i64 0, .int .u64 0], []⟩ 8 (by kernel_rfl) (by kernel_rfl) (by kernel_rfl) (by kernel_rfl)) ?_
  intro W base args ds gs before hval hW _ _
  exact gets_contract H enc W base args ds gs before hval hW

/-- FieldGets is true for every input. -/
theorem gets_holds : Rows.FieldGetsSaid :=
  OpenClaim.holds_of_wide 3 Try.f3 rfl rfl rfl rfl rfl rfl rfl ⟨rfl, rfl, rfl, rfl, rfl⟩ rfl rfl rfl rfl rfl (by kernel_rfl) Try.func3 (by kernel_rfl)
    (of_decide_eq_true (by kernel_rfl)) (by unfold Func.isWrapper; first | (rw [if_pos (by decide +kernel)]; kernel_rfl) | (rw [if_neg (by decide +kernel)]; exact ⟨rfl, rfl⟩))
    (fun os started H enc _ => gets_lifted os started H enc)
end Go.Proofs.Ytklhikekjfankaa
