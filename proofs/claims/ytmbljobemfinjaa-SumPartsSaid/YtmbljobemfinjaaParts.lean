/-
  SumParts: whatever the bytes and the others, the sum of bytes, some behind others, hangs on the sum of the first ones, and the others.
-/
import Derived.Test.YtmbljobemfinjaaF
namespace Go.Proofs.Ytmbljobemfinjaa
open Go.ChangeShapes Go.WideShapes Go.ChangeAt Go.RowKit

set_option maxRecDepth 100000 in
set_option maxHeartbeats 800000 in
theorem parts_walk (l0 : List UInt8) (A0 : Option Addr) (n0 c0 : Nat) (l1 : List UInt8) (A1 : Option Addr) (n1 c1 : Nat) (w : World) (hn0 : l0.length = n0) (hr0 : Rd w w.heap.size A0 (bytesV l0)) (hc0 : n0 ≤ c0) (hm0 : c0 ≤ 9223372036854775807) (hn1 : l1.length = n1) (hr1 : Rd w w.heap.size A1 (bytesV l1)) (hc1 : n1 ≤ c1) (hm1 : c1 ≤ 9223372036854775807) :
    Calls Try.prog 5 #[.slice A0 n0 c0, .slice A1 n1 c1] w fun e w' => e = .returned (.bool true) ∧ Below w.heap.size w w' := by
  have Hf0 := Lib.hid (fun w => few_any A0 n0 c0 w hc0 hm0)
  have Hl0 := Lib.hid (few_len l0 n0 hn0)
  have hs0 := hr0.take 50000
  rw [← bytesV_take] at hs0
  obtain ⟨k0, hk0⟩ : ∃ k, k = l0.take 50000 := ⟨_, rfl⟩
  rw [← hk0] at Hl0 hs0
  clear hn0 hr0 hk0
  have hk50 : min n0 50000 ≤ 50000 := Nat.min_le_right _ _
  have hkc0 : min n0 50000 ≤ c0 := by omega
  generalize min n0 50000 = m0 at *
  have Hf1 := Lib.hid (fun w => few_any A1 n1 c1 w hc1 hm1)
  have Hl1 := Lib.hid (few_len l1 n1 hn1)
  have hs1 := hr1.take 50000
  rw [← bytesV_take] at hs1
  obtain ⟨k1, hk1⟩ : ∃ k, k = l1.take 50000 := ⟨_, rfl⟩
  rw [← hk1] at Hl1 hs1
  clear hn1 hr1 hk1
  have hk51 : min n1 50000 ≤ 50000 := Nat.min_le_right _ _
  have hkc1 : min n1 50000 ≤ c1 := by omega
  generalize min n1 50000 = m1 at *
  clear hc0 hc1
  have hlt := sumOf_lt k0
  have Hsum := Lib.hid (sumOf_append k0 k1)
  have Hlen := Lib.hid (show (k0 ++ k1).length = m0 + m1 by rw [List.length_append, Hl0.out, Hl1.out])
  go_enter Try.func5, Try.ntmps5
  go_wp2_with (first
    | (go_at_call 10; refine (Hf0.out _).mono ?_; rintro e w' ⟨rfl, rfl⟩)
    | (go_at_call 10; refine (Hf1.out _).mono ?_; rintro e w' ⟨rfl, rfl⟩)
    | (go_at_call 11; refine (shown_any _).mono ?_; rintro e w1 ⟨rfl, hb⟩; have hlit : (w1.alloc (.cells #[] 5)).ownsRow w.heap.size 5 1 (.slice (some ⟨w1.heap.size, 0, none⟩) 0 0) 0 (bytesV []) := own_mono (World.ownsRow_lit w1 #[] 0 (Nat.le_refl _) (Nat.zero_le _) rfl) hb.size; have hb1 := hb.alloc hb.size (.cells #[] 5); have hs2 := hs0.below hb1; have hz1 := hb1.size)
    | (at_builtin; refine wpList_app5g _ (by rfl) (.tmp 13) (.tmp 14) rfl w.heap.size _ 0 [] rfl hlit w.heap.size A0 m0 c0 k0 rfl Hl0.out hs2 (by omega) hz1 ?_; intro v2 w2 hown2 hgrow2; have hb2 := hb1.grown hgrow2 hz1 (fun g hg => (hlit.lt g hg).1); have hs3 := hs1.below hb2; rw [Nat.zero_add, List.nil_append] at hown2; have hz2 := hb2.size)
    | (at_builtin; refine wpList_app5g _ (by rfl) (.tmp 15) (.tmp 16) rfl w.heap.size _ m0 k0 rfl hown2 w.heap.size A1 m1 c1 k1 rfl Hl1.out hs3 (by omega) hz2 ?_; intro v3 w3 hown3 hgrow3; have hb3 := hb2.grown hgrow3 hz2 (fun g hg => (hown2.lt g hg).1); obtain ⟨_, A3, c3, rfl, hc3, _, hr3⟩ := own_rd hown3; have hs4 := hs0.below hb3; have hs5 := hs1.below hb3)
    | (go_at_call 12; (with_reducible refine (of_any (k0 ++ k1) _ (m0 + m1) _ _ _ Hlen.out hr3 (by omega)).mono ?_); rintro e w' ⟨rfl, rfl⟩; rw [Hsum.out])
    | (go_at_call 12; (with_reducible refine (of_any k0 _ m0 _ _ _ Hl0.out hs4 (by omega)).mono ?_); rintro e w' ⟨rfl, rfl⟩)
    | (go_at_call 14; (with_reducible refine (more_any k1 _ m1 _ _ _ _ hlt Hl1.out hs5 (by omega)).mono ?_); rintro e w' ⟨rfl, rfl⟩))
  go_ret
  exact ⟨rfl, hb3⟩

theorem parts_contract (H : Type) (enc : TypeId × Value → H) (W : World) (base : Nat) (args : Array Value) (ds gs : List (DataW H)) (before : List MemPlace)
    (hval : ∀ (j : Nat) t v, Try.f5.params[j]? = some t → args[j]? = some v → Value.okWide Try.prog W .any base t v)
    (hW : DataW.Whole enc Try.prog Try.f5.params.toList Rows.sumPartsSpec.vars false W args.toList ds gs before) :
    Calls Try.prog 5 args W fun e W' => ∃ v, e = .returned v ∧ Rows.sumPartsSpec.post enc Try.prog Try.f5 false true false false W args v W' := by
  have hW' := hW
  have hlt : ∀ x ∈ before, x.block < W.heap.size := fun x hx => hW.lt x hx
  obtain ⟨p, q, hA0, hV, rfl, _, _⟩ := hW
  have hA : DataW.TrodAll enc Try.prog W 0 (fun _ => true) true Try.f5.params.toList args.toList ds p := hA0
  rw [Try.params5] at hA hval
  obtain ⟨v0, vs0, d0, ds0, p0, q0, hargs, rfl, rfl, h0, r0⟩ := trodAll_cons hA
  obtain ⟨v1, vs1, d1, ds1, p1, q1, rfl, rfl, rfl, h1, r1⟩ := trodAll_cons r0
  obtain ⟨rfl, rfl, rfl⟩ := trodAll_nil r1
  obtain rfl : args = #[v0, v1] := by cases args; simp_all
  obtain ⟨rfl, rfl⟩ := trodVars_none hV
  clear hA0
  obtain ⟨A0, n0, c0, l0, rfl, hn0, hc0, hm0, hr0⟩ := open_bytesL Try.underlying23 Try.underlying5 cells5 (hval 0 23 v0 rfl rfl) h0 (fun x hx => hlt x (by simp [hx]))
  unfold maxLen at hm0
  obtain ⟨A1, n1, c1, l1, rfl, hn1, hc1, hm1, hr1⟩ := open_bytesL Try.underlying23 Try.underlying5 cells5 (hval 1 23 v1 rfl rfl) h1 (fun x hx => hlt x (by simp [hx]))
  unfold maxLen at hm1
  refine (parts_walk l0 A0 n0 c0 l1 A1 n1 c1 W hn0 hr0 hc0 hm0 hn1 hr1 hc1 hm1).mono fun e W' ⟨he, hb⟩ => ?_
  subst he
  exact ⟨_, rfl, law_post laid (by kernel_rfl) Try.underlying4 (by rw [Try.params5]; decide +kernel) rfl hW' ⟨rfl, rfl, rfl⟩ hb⟩

set_option maxRecDepth 100000 in
theorem parts_lifted (os : Os) (started : os.Started) (H : Type) (enc : TypeId × Value → H) :
    ReturnsInHanded {} Try.checked os 5 .any (Rows.sumPartsSpec.pre6 enc Try.prog Try.f5 Rows.sumPartsRow.domain false) (Rows.sumPartsSpec.post enc Try.prog Try.f5 false true false false) := by
  refine returnsInHanded_of_change (C := Try.checked) own started (by kernel_rfl) Try.func5
    (ChangeSpec.witness6 (enc := enc) (C := Try.checked) false ⟨#[], #[.slice none 0 0, .slice none 0 0], []⟩ 8 (by kernel_rfl) (by kernel_rfl) (by kernel_rfl) (by kernel_rfl)) ?_
  intro W base args ds gs before hval hW _ _
  exact parts_contract H enc W base args ds gs before hval hW

/-- SumParts is true for every input. -/
theorem parts_holds : Rows.SumPartsSaid :=
  OpenClaim.holds_of_wide 5 Try.f5 rfl rfl rfl rfl rfl rfl rfl ⟨rfl, rfl, rfl, rfl, rfl⟩ rfl rfl rfl rfl rfl (by kernel_rfl) Try.func5 (by kernel_rfl)
    (of_decide_eq_true (by kernel_rfl)) (by unfold Func.isWrapper; first | (rw [if_pos (by decide +kernel)]; kernel_rfl) | (rw [if_neg (by decide +kernel)]; exact ⟨rfl, rfl⟩))
    (fun os started H enc _ => parts_lifted os started H enc)
end Go.Proofs.Ytmbljobemfinjaa
