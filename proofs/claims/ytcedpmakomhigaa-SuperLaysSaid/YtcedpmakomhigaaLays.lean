/-
  SuperLays: whatever the geometry, its superblock is the document's.
-/
import Derived.Test.YtcedpmakomhigaaO
namespace Go.Proofs.Ytcedpmakomhigaa
open Go.ChangeShapes Go.WideShapes Go.ChangeAt Go.RowKit

set_option maxHeartbeats 800000 in
set_option maxRecDepth 100000 in
theorem lays_yes {J I G P : Nat} (h : Valid J I G P) (w : World) : Calls Try.prog 4 #[geoV J I G P] w fun e w' => e = .returned (.bool true) ∧ Below w.heap.size w w' := by
  have HS := Lib.hid (length_super J I G P)
  have HL : Hid (∀ w, Calls Try.prog 18 #[geoV J I G P] w fun e w' => ∃ v, e = .returned (.tuple #[v, .int .i64 0]) ∧ Made w (superL J I G P) v w') := fun w => slay_yes h w
  have HR : Hid (∀ w, Calls Try.prog 19 #[geoV J I G P] w fun e w' => ∃ v, e = .returned (.tuple #[v, .int .i64 0]) ∧ Made w (superL J I G P) v w') := fun w => rlay_yes h w
  generalize superL J I G P = S at *
  clear h
  unfold geoV at *
  go_enter Try.func4, Try.ntmps4
  go_wp2_with fail
  refine (HL.out _).mono ?_
  rintro e w1 ⟨v1, rfl, hown1, hb1⟩
  obtain ⟨c0, c1, c2, c3, hb1', hs1⟩ := kept_cells hb1
  rw [HS.out] at hown1
  obtain ⟨_, A1, d1, rfl, hd1, _, hr1⟩ := own_rd hown1
  have HB1 := Lib.hid hb1'
  have HR1 := Lib.hid hr1
  clear hb1 hb1' hown1 hr1
  go_wp2_with fail
  refine (HR.out _).mono ?_
  rintro e w2 ⟨v2, rfl, hown2, hb2⟩
  rw [HS.out] at hown2
  obtain ⟨_, A2, d2, rfl, hd2, _, hr2⟩ := own_rd hown2
  have HB2 := Lib.hid (HB1.out.trans (hb2.mono HB1.out.size))
  have HR2 := Lib.hid hr2
  have HR1' := Lib.hid ((HR1.out.below hb2).more hb2.size)
  clear hb2 hown2 hr2 c0 c1 c2 c3
  go_wp2_with (go_at_call 13; refine (shown_any _).mono ?_; rintro e w3 ⟨rfl, hb3⟩; have HB3 := Lib.hid (HB2.out.trans (hb3.mono HB2.out.size)); have s1 := str_of (c := d1) HS.out (HR1'.out.below hb3); have s2 := str_of (c := d2) HS.out (HR2.out.below hb3); clear hb3)
  go_ret
  exact ⟨rfl, HB3.out⟩

theorem str_nil (W : World) : (convert 35 9 (.slice none 0 0)).run Try.prog W = .ok (.string ⟨#[]⟩) W := run_str W 35 9 5 Try.underlying35 Try.underlying5 Try.underlying9 0 none 0 0 [] rfl (.inl rfl)

set_option maxHeartbeats 800000 in
set_option maxRecDepth 100000 in
theorem lays_no {j i g p : Int} (h : ¬ Valid j i g p) (w : World) : Calls Try.prog 4 #[geoV j i g p] w fun e w' => e = .returned (.bool true) ∧ Below w.heap.size w w' := by
  have HL : Hid (∀ w, Calls Try.prog 18 #[geoV j i g p] w fun e w' => e = .returned (.tuple #[.slice none 0 0, .int .i64 1]) ∧ Below w.heap.size w w') := fun w => slay_no h w
  have HR : Hid (∀ w, Calls Try.prog 19 #[geoV j i g p] w fun e w' => e = .returned (.tuple #[.slice none 0 0, .int .i64 1]) ∧ Below w.heap.size w w') := fun w => rlay_no h w
  clear h
  have hnil := str_nil
  unfold geoV at *
  go_enter Try.func4, Try.ntmps4
  go_wp2_with fail
  refine (HL.out _).mono ?_
  rintro e w1 ⟨rfl, hb1⟩
  obtain ⟨c0, c1, c2, c3, hb1', hs1⟩ := kept_cells hb1
  have HB1 := Lib.hid hb1'
  clear hb1 hb1'
  go_wp2_with fail
  refine (HR.out _).mono ?_
  rintro e w2 ⟨rfl, hb2⟩
  have HB2 := Lib.hid (HB1.out.trans (hb2.mono HB1.out.size))
  clear hb2 c0 c1 c2 c3
  go_wp2_with (go_at_call 13; refine (shown_any _).mono ?_; rintro e w3 ⟨rfl, hb3⟩; have HB3 := Lib.hid (HB2.out.trans (hb3.mono HB2.out.size)); clear hb3)
  go_ret
  exact ⟨rfl, HB3.out⟩

theorem lays_walk (j i g p : Int) (w : World) : Calls Try.prog 4 #[geoV j i g p] w fun e w' => e = .returned (.bool true) ∧ Below w.heap.size w w' := by
  by_cases h : Valid j i g p
  · obtain ⟨J, I, G, P, rfl, rfl, rfl, rfl⟩ := h.nats
    exact lays_yes h w
  · exact lays_no h w

theorem lays_contract (H : Type) (enc : TypeId × Value → H) (W : World) (base : Nat) (args : Array Value) (ds gs : List (DataW H)) (before : List MemPlace)
    (hval : ∀ (j : Nat) t v, Try.f4.params[j]? = some t → args[j]? = some v → Value.okWide Try.prog W .any base t v)
    (hW : DataW.Whole enc Try.prog Try.f4.params.toList Rows.superLaysSpec.vars false W args.toList ds gs before) :
    Calls Try.prog 4 args W fun e W' => ∃ v, e = .returned v ∧ Rows.superLaysSpec.post enc Try.prog Try.f4 false true false false W args v W' := by
  have hW' := hW
  have hlt : ∀ x ∈ before, x.block < W.heap.size := fun x hx => hW.lt x hx
  obtain ⟨p, q, hA0, hV, rfl, _, _⟩ := hW
  have hA : DataW.TrodAll enc Try.prog W 0 (fun _ => true) true Try.f4.params.toList args.toList ds p := hA0
  rw [Try.params4] at hA hval
  obtain ⟨v0, vs0, d0, ds0, p0, q0, hargs, rfl, rfl, h0, r0⟩ := trodAll_cons hA
  obtain ⟨rfl, rfl, rfl⟩ := trodAll_nil r0
  obtain rfl : args = #[v0] := by cases args; simp_all
  obtain ⟨rfl, rfl⟩ := trodVars_none hV
  clear hA0
  obtain ⟨j0, i0, g0, p0, rfl, bj0, bi0, bg0, bp0⟩ := open_geo (hval 0 23 v0 rfl rfl) h0
  refine (lays_walk j0 i0 g0 p0 W).mono fun e W' ⟨he, hb⟩ => ?_
  subst he
  exact ⟨_, rfl, law_post laid (by kernel_rfl) Try.underlying4 (by rw [Try.params4]; decide +kernel) rfl hW' ⟨rfl, rfl, rfl⟩ hb⟩

set_option maxRecDepth 100000 in
theorem lays_lifted (os : Os) (started : os.Started) (H : Type) (enc : TypeId × Value → H) :
    ReturnsInHanded {} Try.checked os 4 .any (Rows.superLaysSpec.pre6 enc Try.prog Try.f4 Rows.superLaysRow.domain false) (Rows.superLaysSpec.post enc Try.prog Try.f4 false true false false) := by
  refine returnsInHanded_of_change (C := Try.checked) own started (by kernel_rfl) Try.func4
    (ChangeSpec.witness6 (enc := enc) (C := Try.checked) false ⟨#[], #[.agg #[.int .i64 0, .int .i64 0, .int .i64 0, .int .i64 0]], []⟩ 8 (by kernel_rfl) (by kernel_rfl) (by kernel_rfl) (by kernel_rfl)) ?_
  intro W base args ds gs before hval hW _ _
  exact lays_contract H enc W base args ds gs before hval hW

/-- SuperLays is true for every input. -/
theorem lays_holds : Rows.SuperLaysSaid :=
  OpenClaim.holds_of_wide 4 Try.f4 rfl rfl rfl rfl rfl rfl rfl ⟨rfl, rfl, rfl, rfl, rfl⟩ rfl rfl rfl rfl rfl (by kernel_rfl) Try.func4 (by kernel_rfl)
    (of_decide_eq_true (by kernel_rfl)) (by unfold Func.isWrapper; first | (rw [if_pos (by decide +kernel)]; kernel_rfl) | (rw [if_neg (by decide +kernel)]; exact ⟨rfl, rfl⟩))
    (fun os started H enc _ => lays_lifted os started H enc)
end Go.Proofs.Ytcedpmakomhigaa
