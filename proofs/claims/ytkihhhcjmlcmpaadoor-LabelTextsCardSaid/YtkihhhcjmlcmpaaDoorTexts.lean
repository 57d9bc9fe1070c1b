/-
  LabelTexts: whatever label and text (the first 200 bytes), the label's text, and the text's label, are the document's.
-/
import Derived.Test.YtkihhhcjmlcmpaaDoorD
namespace Go.Proofs.YtkihhhcjmlcmpaaDoor
open Go.ChangeShapes Go.WideShapes Go.ChangeAt Go.RowKit

set_option maxHeartbeats 800000 in
theorem texts_walk (a : Int) (s : ByteArray) (w : World) (ha : 0 ≤ a ∧ a ≤ 65535) (hs : s.size ≤ 9223372036854775807) (hM : MaxAt w) :
    Calls Tryd.prog 4 #[.int .u16 a, .string s] w fun e w' => e = .returned (.bool true) ∧ Below w.heap.size w w' := by
  obtain ⟨a, rfl⟩ := Int.eq_ofNat_of_zero_le ha.1
  have ha' : a < 65536 := by omega
  clear ha
  obtain ⟨q, hq⟩ : ∃ q : Nat, q = min s.size 200 := ⟨_, rfl⟩
  have hqn : q ≤ s.size := by omega
  have hq2 : q ≤ 200 := by omega
  have hqi : min (s.size : Int) 200 = (q : Int) := by omega
  clear hq
  go_enter Tryd.func4, Tryd.ntmps4
  go_wp2_with fail
  obtain ⟨t, ht⟩ : ∃ t, t = s.extract 0 q := ⟨_, rfl⟩
  have hts : t.size ≤ 1000000 := by rw [ht, ByteArray.size_extract]; omega
  rw [← ht]
  clear ht
  refine (parse_any t _ hts hM).mono ?_
  rintro e w1 ⟨rfl, hB1⟩
  have hM1 := hM.below hB1
  go_wp2_with fail
  refine (rparse_any t _ hts).mono ?_
  rintro e w2 ⟨rfl, hb2⟩
  have hM2 := hM1.below hb2
  have hB2 := hB1.trans (hb2.mono hB1.size)
  clear hM hM1 hB1 hb2
  go_wp2_with (first
    | (go_at_call 12; refine (shown_any _ hM2).mono ?_; rintro e w3 ⟨rfl, hb3⟩; have hB3 := hB2.trans (hb3.mono hB2.size))
    | (go_at_call 26; refine (text_any _ _ ha').mono ?_; rintro e w4 ⟨rfl, hb4⟩; have hB4 := hB3.trans (hb4.mono hB3.size))
    | (go_at_call 27; refine (rtext_any _ _ ha').mono ?_; rintro e w5 ⟨rfl, hb5⟩; have hB5 := hB4.trans (hb5.mono hB4.size)))
  go_ret
  exact ⟨rfl, hB5⟩

theorem texts_contract (H : Type) (enc : TypeId × Value → H) (W : World) (base : Nat) (args : Array Value) (ds gs : List (DataW H)) (before : List MemPlace)
    (hval : ∀ (j : Nat) t v, Tryd.f4.params[j]? = some t → args[j]? = some v → Value.okWide Tryd.prog W .any base t v)
    (hW : DataW.Whole enc Tryd.prog Tryd.f4.params.toList Rows.labelTextsSpec.vars false W args.toList ds gs before) (hsh : W.ShapedOpen Tryd.prog) :
    Calls Tryd.prog 4 args W fun e W' => ∃ v, e = .returned v ∧ Rows.labelTextsSpec.post enc Tryd.prog Tryd.f4 false true false false W args v W' := by
  have hW' := hW
  have hlt : ∀ x ∈ before, x.block < W.heap.size := fun x hx => hW.lt x hx
  have hMax := maxAt hsh
  clear hsh
  obtain ⟨p, q, hA0, hV, rfl, _, _⟩ := hW
  have hA : DataW.TrodAll enc Tryd.prog W 0 (fun _ => true) true Tryd.f4.params.toList args.toList ds p := hA0
  rw [Tryd.params4] at hA hval
  obtain ⟨v0, vs0, d0, ds0, p0, q0, hargs, rfl, rfl, h0, r0⟩ := trodAll_cons hA
  obtain ⟨v1, vs1, d1, ds1, p1, q1, rfl, rfl, rfl, h1, r1⟩ := trodAll_cons r0
  obtain ⟨rfl, rfl, rfl⟩ := trodAll_nil r1
  obtain rfl : args = #[v0, v1] := by cases args; simp_all
  obtain ⟨rfl, rfl⟩ := trodVars_none hV
  clear hA0
  obtain ⟨a0, rfl, rfl, rfl, wa0⟩ := open_int Tryd.underlying24 (hval 0 24 v0 rfl rfl) h0
  have bd0 := bounds_u16 wa0
  obtain ⟨s1, rfl, rfl, rfl, hs1⟩ := Go.ChangeMaps.open_string Tryd.underlying9 (hval 1 9 v1 rfl rfl) h1
  unfold maxLen at hs1
  refine (texts_walk a0 s1 W bd0 (by omega) hMax).mono fun e W' ⟨he, hb⟩ => ?_
  subst he
  exact ⟨_, rfl, law_post laid (by kernel_rfl) Tryd.underlying4 (by rw [Tryd.params4]; decide +kernel) rfl hW' ⟨rfl, rfl, rfl⟩ hb⟩

theorem texts_reads (os : Os) {H : Type} (enc : TypeId × Value → H) : ∃ x, DataW.whole enc Tryd.prog ((laidWorld os).forCall (fun _ _ => 0) ⟨#[], #[.int .u16 0, .string .empty], []⟩).memory Tryd.f4.params.toList Rows.labelTextsSpec.vars false (#[.int .u16 0, .string .empty] : Array Value).toList 8 = some x :=
  Option.isSome_iff_exists.1 (by kernel_rfl)

set_option maxRecDepth 100000 in
theorem texts_lifted (os : Os) (started : os.Started) (H : Type) (enc : TypeId × Value → H) (F : Stop.Interp) :
    ReturnsInHanded {} Tryd.checked os 4 .any ((OpenSpec.ofChange Rows.labelTextsSpec).preRow enc Tryd.prog Tryd.f4 Rows.labelTextsRow.domain false Rows.labelTextsRow.laid) (((OpenSpec.ofChange Rows.labelTextsSpec).at F).post enc Tryd.prog Tryd.f4 false true false false) := by
  obtain ⟨x, hx⟩ := texts_reads os enc
  refine returnsInHanded_of_row (C := Tryd.checked) (s := OpenSpec.ofChange Rows.labelTextsSpec) own started (by kernel_rfl) Tryd.func4
    (witness_row_at (enc := enc) (C := Tryd.checked) false (laidWorld os) #[.int .u16 0, .string .empty] rfl (by kernel_rfl) (by kernel_rfl) (by kernel_rfl)
      (OpenSpec.preRow_of_cond 8 hx rfl (fun k hk => by cases hk) (by kernel_rfl) (laid_met os _))) ?_
  intro W base args ds gs before hval hW _ _ _ _ hsh _
  exact texts_contract H enc W base args ds gs before hval hW hsh

theorem texts_said : Rows.LabelTextsSaid :=
  OpenClaim.holds_of_cond 4 Tryd.f4 rfl rfl rfl rfl rfl rfl rfl ⟨rfl, rfl, rfl, rfl, rfl⟩ rfl rfl rfl rfl rfl (by kernel_rfl) Tryd.func4 (by kernel_rfl)
    (of_decide_eq_true (by kernel_rfl)) (by unfold Func.isWrapper; first | (rw [if_pos (by decide +kernel)]; kernel_rfl) | (rw [if_neg (by decide +kernel)]; exact ⟨rfl, rfl⟩))
    (fun os started H enc _ F => by rw [OpenClaim.pre_eq_preRow]; exact texts_lifted os started H enc F)

/-- LabelTexts is true for every input; what its row lists is tied to the program's text. -/
theorem texts_holds : Rows.LabelTextsCardSaid :=
  Claim7.holds_tied_plain_at .later [] _ _ _ _ texts_said (fun _ h => by cases h) (by kernel_rfl) (fun _ h => by cases h) labelTexts_row_tie rfl ⟨rfl, rfl⟩ (by kernel_rfl) rfl
    (plain_of (by kernel_rfl) Tryd.func4 no_looks (by kernel_rfl)) (by kernel_rfl)
end Go.Proofs.YtkihhhcjmlcmpaaDoor
