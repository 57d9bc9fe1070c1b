/-
  PathUnder: whatever the two texts (the first 1,000 bytes of each), whether one path leads through the other one is the document's.
-/
import Derived.Test.YthpppkkagepomaaO
namespace Go.Proofs.Ythpppkkagepomaa
open Go.ChangeShapes Go.WideShapes Go.ChangeAt Go.RowKit Path

set_option maxHeartbeats 1600000 in
theorem under_walk (s t : ByteArray) (w : World) : Calls Try.prog 5 #[.string s, .string t] w fun e w' => e = .returned (.bool true) ∧ Below w.heap.size w w' := by
  have hsz := few_size s
  have htz := few_size t
  have HF := Lib.hid (fun u => few_any s u)
  have HG := Lib.hid (fun u => few_any t u)
  have HU := Lib.hid (fun u => under_any (fewB s) (fewB t) u (by omega) (by omega))
  have HV := Lib.hid (fun u => runder_any (fewB s) (fewB t) u (by omega) (by omega))
  generalize underP (fewB s).data.toList (fewB t).data.toList = b at *
  generalize fewB s = x at *
  generalize fewB t = y at *
  clear hsz htz
  go_enter Try.func5, Try.ntmps5
  go_wp2_with (first
    | (go_at_call 14; (with_reducible refine (shown_any _).mono ?_); rintro e w1 ⟨he, hb1⟩; obtain rfl := he; have HB1 := Lib.hid hb1; clear hb1)
    | (go_at_call 10; (with_reducible refine (HF.out _).mono ?_); rintro e wf ⟨he, hwf⟩; obtain rfl := he; subst hwf)
    | (go_at_call 10; (with_reducible refine (HG.out _).mono ?_); rintro e wf ⟨he, hwf⟩; obtain rfl := he; subst hwf)
    | (go_at_call 19; (with_reducible refine (HU.out _).mono ?_); rintro e w2 ⟨he, hb2⟩; obtain rfl := he; have HB2 := Lib.hid (HB1.out.trans (hb2.mono HB1.out.size)); clear hb2)
    | (go_at_call 20; (with_reducible refine (HV.out _).mono ?_); rintro e w3 ⟨he, hb3⟩; obtain rfl := he; have HB3 := Lib.hid (HB2.out.trans (hb3.mono HB2.out.size)); clear hb3))
  go_ret
  exact ⟨rfl, HB3.out⟩

theorem under_contract (H : Type) (enc : TypeId × Value → H) (W : World) (base : Nat) (args : Array Value) (ds gs : List (DataW H)) (before : List MemPlace)
    (hval : ∀ (j : Nat) t v, Try.f5.params[j]? = some t → args[j]? = some v → Value.okWide Try.prog W .any base t v)
    (hW : DataW.Whole enc Try.prog Try.f5.params.toList Rows.pathUnderSpec.vars false W args.toList ds gs before) :
    Calls Try.prog 5 args W fun e W' => ∃ v, e = .returned v ∧ Rows.pathUnderSpec.post enc Try.prog Try.f5 false true false false W args v W' := by
  have hW' := hW
  have hlt : ∀ x ∈ before, x.block < W.heap.size := fun x hx => hW.lt x hx
  obtain ⟨p, q, hA0, hV, rfl, _, _⟩ := hW
  have hA : DataW.TrodAll enc Try.prog W 0 (fun _ => true) true Try.f5.params.toList args.toList ds p := hA0
  rw [Try.params5] at hA hval
  obtain ⟨v0, vs0, d0, ds0, p0, q0, hargs, rfl, rfl, h0, r0⟩ := trodAll_cons hA
  obtain ⟨v1, vs1, d1, ds1, p1, q1, rfl, rfl, rfl, h1, r1⟩ := trodAll_cons r0
  obtain ⟨rfl, rfl, rfl⟩ := trodAll_nil r1
  obtain rfl : args = #[v0, v1] := by cases args; simp_all
  obtain ⟨rfl, rfl⟩ := trodVars_none hV
  clear hA0
  obtain ⟨s0, rfl, rfl, rfl, hs0⟩ := Go.ChangeMaps.open_string Try.underlying9 (hval 0 9 v0 rfl rfl) h0
  unfold maxLen at hs0
  obtain ⟨s1, rfl, rfl, rfl, hs1⟩ := Go.ChangeMaps.open_string Try.underlying9 (hval 1 9 v1 rfl rfl) h1
  unfold maxLen at hs1
  refine (under_walk s0 s1 W).mono fun e W' ⟨he, hb⟩ => ?_
  subst he
  exact ⟨_, rfl, law_post laid (by kernel_rfl) Try.underlying4 (by rw [Try.params5]; decide +kernel) rfl hW' ⟨rfl, rfl, rfl⟩ hb⟩

set_option maxRecDepth 100000 in
theorem under_lifted (os : Os) (started : os.Started) (H : Type) (enc : TypeId × Value → H) :
    ReturnsInHanded {} Try.checked os 5 .any (Rows.pathUnderSpec.pre6 enc Try.prog Try.f5 Rows.pathUnderRow.domain false) (Rows.pathUnderSpec.post enc Try.prog Try.f5 false true false false) := by
  refine returnsInHanded_of_change (C := Try.checked) own started (by kernel_rfl) Try.func5
    (ChangeSpec.witness6 (enc := enc) (C := Try.checked) false ⟨#[], #[.string .empty, .string .empty], []⟩ 8 (by kernel_rfl) (by kernel_rfl) (by kernel_rfl) (by kernel_rfl)) ?_
  intro W base args ds gs before hval hW _ _
  exact under_contract H enc W base args ds gs before hval hW

/-- PathUnder is true for every input. -/
theorem under_holds : Rows.PathUnderSaid :=
  OpenClaim.holds_of_wide 5 Try.f5 rfl rfl rfl rfl rfl rfl rfl ⟨rfl, rfl, rfl, rfl, rfl⟩ rfl rfl rfl rfl rfl (by kernel_rfl) Try.func5 (by kernel_rfl)
    (of_decide_eq_true (by kernel_rfl)) (by unfold Func.isWrapper; first | (rw [if_pos (by decide +kernel)]; kernel_rfl) | (rw [if_neg (by decide +kernel)]; exact ⟨rfl, rfl⟩))
    (fun os started H enc _ => under_lifted os started H enc)
end Go.Proofs.Ythpppkkagepomaa
