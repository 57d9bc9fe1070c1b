/-
  SpinParts: the hash of two texts, one behind the other, hangs on that of the first one, and the second one.
-/
import Derived.Test.YtnplbehnlmlodaaC
namespace Go.Proofs.Ytnplbehnlmlodaa
open Go.ChangeShapes Go.WideShapes Go.ChangeAt Go.RowKit

theorem few_fits (s : ByteArray) : (few s).size ≤ 9223372036854775807 := by rw [few_size]; omega
theorem both_fit (s t : ByteArray) : (few s ++ few t).size ≤ 9223372036854775807 := by rw [ByteArray.size_append, few_size, few_size]; omega
theorem one_ok : ok (1, 0) := by unfold ok; decide
theorem of_res (l : List UInt8) : res (ofX l) = ofX l ∧ res (ofY l) = ofY l :=
  ⟨res_id (mX_bd one_ok l).1 (mX_bd one_ok l).2, res_id (mY_bd one_ok l).1 (mY_bd one_ok l).2⟩
/-- More of a first text's hash, at a second one: the hash of both. -/
theorem more_both (s t : ByteArray) (w : World) :
    Calls Try.prog 22 #[.agg #[.int .i64 (ofX (few s).data.toList), .int .i64 (ofY (few s).data.toList)], .string (few t)] w fun e w' => e = .returned (.agg #[.int .i64 (ofX (few s ++ few t).data.toList), .int .i64 (ofY (few s ++ few t).data.toList)]) ∧ Below w.heap.size w w' := by
  have h := more_any (ofX (few s).data.toList) (ofY (few s).data.toList) (few t) w (few_fits t)
  rw [(of_res _).1, (of_res _).2] at h
  have e : (few s ++ few t).data.toList = (few s).data.toList ++ (few t).data.toList := by simp [ByteArray.data_append]
  unfold ofX ofY at *
  rw [e, mX_append, mY_append]
  exact h

set_option maxRecDepth 100000 in
set_option maxHeartbeats 1600000 in
theorem parts_walk (s t : ByteArray) (w : World) (hs : s.size ≤ 9223372036854775807) (ht : t.size ≤ 9223372036854775807) :
    Calls Try.prog 6 #[.string s, .string t] w fun e w' => e = .returned (.bool true) ∧ Below w.heap.size w w' := by
  have eq := spin_eql
  have gd := guard_at
  have hfs := few_size s
  have hft := few_size t
  have hl : (few s).size + (few t).size ≤ 40000 := by omega
  clear hfs hft
  go_enter Try.func6, Try.ntmps6
  go_wp2_with (first
      | (go_at_call 10; refine (shown_any _).mono ?_; rintro e w1 ⟨rfl, hb1⟩)
      | (go_at_call 20; (with_reducible refine (few_any s _ (by omega)).mono ?_); rintro e w' ⟨rfl, rfl⟩)
      | (go_at_call 20; (with_reducible refine (few_any t _ (by omega)).mono ?_); rintro e w' ⟨rfl, rfl⟩)
      | (go_at_call 19; (with_reducible refine (of_any (few s) _ (few_fits s)).mono ?_); rintro e w3 ⟨rfl, hb3⟩)
      | (go_at_call 19; (with_reducible refine (of_any (few s ++ few t) _ (both_fit s t)).mono ?_); rintro e w2 ⟨rfl, hb2⟩)
      | (go_at_call 22; refine (more_both s t _).mono ?_; rintro e w4 ⟨rfl, hb4⟩))
  go_ret
  have h34 := hb3.trans (hb4.mono hb3.size)
  have h24 := hb2.trans (h34.mono hb2.size)
  exact ⟨rfl, hb1.trans (h24.mono hb1.size)⟩

theorem parts_contract (H : Type) (enc : TypeId × Value → H) (W : World) (base : Nat) (args : Array Value) (ds gs : List (DataW H)) (before : List MemPlace)
    (hval : ∀ (j : Nat) t v, Try.f6.params[j]? = some t → args[j]? = some v → Value.okWide Try.prog W .any base t v)
    (hW : DataW.Whole enc Try.prog Try.f6.params.toList Rows.spinPartsSpec.vars false W args.toList ds gs before) :
    Calls Try.prog 6 args W fun e W' => ∃ v, e = .returned v ∧ Rows.spinPartsSpec.post enc Try.prog Try.f6 false true false false W args v W' := by
  have hW' := hW
  have hlt : ∀ x ∈ before, x.block < W.heap.size := fun x hx => hW.lt x hx
  obtain ⟨p, q, hA0, hV, rfl, _, _⟩ := hW
  have hA : DataW.TrodAll enc Try.prog W 0 (fun _ => true) true Try.f6.params.toList args.toList ds p := hA0
  rw [Try.params6] at hA hval
  obtain ⟨v0, vs0, d0, ds0, p0, q0, hargs, rfl, rfl, h0, r0⟩ := trodAll_cons hA
  obtain ⟨v1, vs1, d1, ds1, p1, q1, rfl, rfl, rfl, h1, r1⟩ := trodAll_cons r0
  obtain ⟨rfl, rfl, rfl⟩ := trodAll_nil r1
  obtain rfl : args = #[v0, v1] := by cases args; simp_all
  obtain ⟨rfl, rfl⟩ := trodVars_none hV
  clear hA0
  obtain ⟨s0, rfl, rfl, rfl, hs0⟩ := Go.ChangeMaps.open_string Try.underlying9 (hval 0 9 v0 rfl rfl) h0
  unfold maxLen at hs0
  obtain ⟨s1, rfl, rfl, rfl, hs1⟩ := Go.ChangeMaps.open_string Try.underlying9 (hval 1 9 v1 rfl rfl) h1
  unfold maxLen at hs1
  refine (parts_walk s0 s1 W (by omega) (by omega)).mono fun e W' ⟨he, hb⟩ => ?_
  subst he
  exact ⟨_, rfl, law_post laid (by kernel_rfl) Try.underlying4 (by rw [Try.params6]; decide +kernel) rfl hW' ⟨rfl, rfl, rfl⟩ hb⟩

set_option maxRecDepth 100000 in
theorem parts_lifted (os : Os) (started : os.Started) (H : Type) (enc : TypeId × Value → H) :
    ReturnsInHanded {} Try.checked os 6 .any (Rows.spinPartsSpec.pre6 enc Try.prog Try.f6 Rows.spinPartsRow.domain false) (Rows.spinPartsSpec.post enc Try.prog Try.f6 false true false false) := by
  refine returnsInHanded_of_change (C := Try.checked) own started (by kernel_rfl) Try.func6
    (ChangeSpec.witness6 (enc := enc) (C := Try.checked) false ⟨#[], #[.string .empty, .string .empty], []⟩ 8 (by kernel_rfl) (by kernel_rfl) (by kernel_rfl) (by kernel_rfl)) ?_
  intro W base args ds gs before hval hW _ _
  exact parts_contract H enc W base args ds gs before hval hW

/-- SpinParts is true for every input. -/
theorem parts_holds : Rows.SpinPartsSaid :=
  OpenClaim.holds_of_wide 6 Try.f6 rfl rfl rfl rfl rfl rfl rfl ⟨rfl, rfl, rfl, rfl, rfl⟩ rfl rfl rfl rfl rfl (by kernel_rfl) Try.func6 (by kernel_rfl)
    (of_decide_eq_true (by kernel_rfl)) (by unfold Func.isWrapper; first | (rw [if_pos (by decide +kernel)]; kernel_rfl) | (rw [if_neg (by decide +kernel)]; exact ⟨rfl, rfl⟩))
    (fun os started H enc _ => parts_lifted os started H enc)
end Go.Proofs.Ytnplbehnlmlodaa
