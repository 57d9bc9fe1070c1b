/-
  PathParses: whatever the text (the first 1,000 bytes), a path's names, and its directory and last name, are the document's.
-/
import Derived.Test.YthpppkkagepomaaO
namespace Go.Proofs.Ythpppkkagepomaa
open Go.ChangeShapes Go.WideShapes Go.ChangeAt Go.RowKit Path

set_option maxRecDepth 100000 in
set_option maxHeartbeats 1600000 in
theorem parses_walk (s : ByteArray) (w : World) : Calls Try.prog 3 #[.string s] w fun e w' => e = .returned (.bool true) ∧ Below w.heap.size w w' := by
  have hsz := few_size s
  have HF := Lib.hid (fun u => few_any s u)
  have HP := Lib.hid (fun u => parse_any (fewB s) u (by omega))
  have HQ := Lib.hid (fun u => rparse_any (fewB s) u (by omega))
  have HS := Lib.hid (fun u => split_any (fewB s) u (by omega))
  have HT := Lib.hid (fun u => rsplit_any (fewB s) u (by omega))
  have hlen : (parseP (fewB s).data.toList).1.length ≤ 16 := by
    cases hp : parP (fewB s).data.toList with
    | none => rw [parse_none hp]; simp
    | some l => rw [parse_some hp]; exact par_len hp
  generalize parseP (fewB s).data.toList = r at *
  obtain ⟨l, k⟩ := r
  generalize splitP (fewB s).data.toList = q at *
  obtain ⟨x, y, z⟩ := q
  unfold HandsS at HS HT
  simp only at hlen HS HT
  generalize (⟨x.toArray⟩ : ByteArray) = X at *
  generalize (⟨y.toArray⟩ : ByteArray) = Y at *
  generalize fewB s = t at *
  obtain ⟨p, hp⟩ : ∃ p, l.length = p := ⟨_, rfl⟩
  have Hp := Lib.hid hp
  rw [hp] at hlen
  clear hp hsz
  go_enter Try.func3, Try.ntmps3
  go_wp2_with (first
    | (go_at_call 10; (with_reducible refine (HF.out _).mono ?_); rintro e wf ⟨he, hwf⟩; obtain rfl := he; subst hwf)
    | (go_at_call 9; (with_reducible refine (HP.out _).mono ?_); rintro e w1 h1; obtain ⟨A1, c1, he, -, hr1, hb1⟩ := hands_pair h1; obtain rfl := he; rw [Hp.out]; have HR1 := Lib.hid hr1; have HB1 := Lib.hid hb1; clear h1 hr1 hb1)
    | (go_at_call 11; (with_reducible refine (HQ.out _).mono ?_); rintro e w2 h2; obtain ⟨A2, c2, he, -, hr2, hb2⟩ := hands_pair h2; obtain rfl := he; rw [Hp.out]; have HR12 := Lib.hid ((HR1.out.below hb2).more hb2.size); have HR2 := Lib.hid hr2; have HB2 := Lib.hid (HB1.out.trans (hb2.mono HB1.out.size)); clear h2 hr2 hb2)
    | (go_at_call 12; (with_reducible refine (HS.out _).mono ?_); rintro e w3 ⟨he, hb3⟩; obtain rfl := he; have HR13 := Lib.hid ((HR12.out.below hb3).more hb3.size); have HR23 := Lib.hid ((HR2.out.below hb3).more hb3.size); have HB3 := Lib.hid (HB2.out.trans (hb3.mono HB2.out.size)); clear hb3)
    | (go_at_call 13; (with_reducible refine (HT.out _).mono ?_); rintro e w4 ⟨he, hb4⟩; obtain rfl := he; have HR14 := Lib.hid ((HR13.out.below hb4).more hb4.size); have HR24 := Lib.hid ((HR23.out.below hb4).more hb4.size); have HB4 := Lib.hid (HB3.out.trans (hb4.mono HB3.out.size)); clear hb4)
    | (go_at_call 14; (with_reducible refine (shown_any _).mono ?_); rintro e w5 ⟨he, hb5⟩; obtain rfl := he; have HR15 := Lib.hid ((HR14.out.below hb5).more hb5.size); have HR25 := Lib.hid ((HR24.out.below hb5).more hb5.size); have HB5 := Lib.hid (HB4.out.trans (hb5.mono HB4.out.size)); clear hb5)
    | (go_at_call 15; (with_reducible refine (same_any l A1 A2 p c1 c2 _ Hp.out HR15.out HR25.out (by omega)).mono ?_); rintro e w6 ⟨he, hb6⟩; obtain rfl := he; have HB6 := Lib.hid (HB5.out.trans (hb6.mono HB5.out.size)); clear hb6))
  go_ret
  exact ⟨rfl, HB6.out⟩

theorem parses_contract (H : Type) (enc : TypeId × Value → H) (W : World) (base : Nat) (args : Array Value) (ds gs : List (DataW H)) (before : List MemPlace)
    (hval : ∀ (j : Nat) t v, Try.f3.params[j]? = some t → args[j]? = some v → Value.okWide Try.prog W .any base t v)
    (hW : DataW.Whole enc Try.prog Try.f3.params.toList Rows.pathParsesSpec.vars false W args.toList ds gs before) :
    Calls Try.prog 3 args W fun e W' => ∃ v, e = .returned v ∧ Rows.pathParsesSpec.post enc Try.prog Try.f3 false true false false W args v W' := by
  have hW' := hW
  have hlt : ∀ x ∈ before, x.block < W.heap.size := fun x hx => hW.lt x hx
  obtain ⟨p, q, hA0, hV, rfl, _, _⟩ := hW
  have hA : DataW.TrodAll enc Try.prog W 0 (fun _ => true) true Try.f3.params.toList args.toList ds p := hA0
  rw [Try.params3] at hA hval
  obtain ⟨v0, vs0, d0, ds0, p0, q0, hargs, rfl, rfl, h0, r0⟩ := trodAll_cons hA
  obtain ⟨rfl, rfl, rfl⟩ := trodAll_nil r0
  obtain rfl : args = #[v0] := by cases args; simp_all
  obtain ⟨rfl, rfl⟩ := trodVars_none hV
  clear hA0
  obtain ⟨s0, rfl, rfl, rfl, hs0⟩ := Go.ChangeMaps.open_string Try.underlying9 (hval 0 9 v0 rfl rfl) h0
  unfold maxLen at hs0
  refine (parses_walk s0 W).mono fun e W' ⟨he, hb⟩ => ?_
  subst he
  exact ⟨_, rfl, law_post laid (by kernel_rfl) Try.underlying4 (by rw [Try.params3]; decide +kernel) rfl hW' ⟨rfl, rfl, rfl⟩ hb⟩

set_option maxRecDepth 100000 in
theorem parses_lifted (os : Os) (started : os.Started) (H : Type) (enc : TypeId × Value → H) :
    ReturnsInHanded {} Try.checked os 3 .any (Rows.pathParsesSpec.pre6 enc Try.prog Try.f3 Rows.pathParsesRow.domain false) (Rows.pathParsesSpec.post enc Try.prog Try.f3 false true false false) := by
  refine returnsInHanded_of_change (C := Try.checked) own started (by kernel_rfl) Try.func3
    (ChangeSpec.witness6 (enc := enc) (C := Try.checked) false ⟨#[], #[.string .empty], []⟩ 8 (by kernel_rfl) (by kernel_rfl) (by kernel_rfl) (by kernel_rfl)) ?_
  intro W base args ds gs before hval hW _ _
  exact parses_contract H enc W base args ds gs before hval hW

/-- PathParses is true for every input. -/
theorem parses_holds : Rows.PathParsesSaid :=
  OpenClaim.holds_of_wide 3 Try.f3 rfl rfl rfl rfl rfl rfl rfl ⟨rfl, rfl, rfl, rfl, rfl⟩ rfl rfl rfl rfl rfl (by kernel_rfl) Try.func3 (by kernel_rfl)
    (of_decide_eq_true (by kernel_rfl)) (by unfold Func.isWrapper; first | (rw [if_pos (by decide +kernel)]; kernel_rfl) | (rw [if_neg (by decide +kernel)]; exact ⟨rfl, rfl⟩))
    (fun os started H enc _ => parses_lifted os started H enc)
end Go.Proofs.Ythpppkkagepomaa
