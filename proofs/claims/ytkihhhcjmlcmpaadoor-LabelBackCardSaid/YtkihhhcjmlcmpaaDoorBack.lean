/-
  LabelBack: whatever label and text (the first 200 bytes), the label's list and text lead back to it, and a text that is a label's is its.
-/
import Derived.Test.YtkihhhcjmlcmpaaDoorD
namespace Go.Proofs.YtkihhhcjmlcmpaaDoor
open Go.ChangeShapes Go.WideShapes Go.ChangeAt Go.RowKit

theorem of_cats {a : Nat} (ha : a < 65536) : ofA ((cats a).map fun (k : Nat) => (k : Int)) = a ∧ ofE ((cats a).map fun (k : Nat) => (k : Int)) = 0 := by
  have h : ((cats a).map fun (k : Nat) => (k : Int)).all goodB = true := by
    rw [List.all_eq_true]
    intro x hx
    simp only [List.mem_map] at hx
    obtain ⟨k, hk, rfl⟩ := hx
    have := cats_lt hk
    simp [goodB]; omega
  have e : ((cats a).map fun (k : Nat) => (k : Int)).map Int.toNat = cats a := by
    rw [List.map_map]
    conv => rhs; rw [← List.map_id (cats a)]
    apply List.map_congr_left
    intro k _
    simp
  unfold ofA ofE
  rw [h, e, if_pos rfl, if_pos rfl, labOf_cats ha]
  exact ⟨rfl, rfl⟩
theorem par_text {a : Nat} (ha : a < 65536) : parA (textL a) = a ∧ parE (textL a) = 0 := by
  unfold parA parE
  rw [nmd_text ha, if_pos rfl, if_pos rfl]
  exact ⟨rfl, rfl⟩
theorem par_either (s : List UInt8) : parA s < 65536 ∧ (parE s = 0 ∧ textL (parA s) = s ∨ parE s = 40 ∧ parA s = 0) := by
  unfold parA parE
  by_cases h : textL (nmd s) = s
  · rw [if_pos h, if_pos h]; exact ⟨nmd_lt s, .inl ⟨rfl, h⟩⟩
  · rw [if_neg h, if_neg h]; exact ⟨by omega, .inr ⟨rfl, rfl⟩⟩

set_option maxHeartbeats 800000 in
theorem back_walk (a : Int) (s : ByteArray) (w : World) (ha : 0 ≤ a ∧ a ≤ 65535) (hs : s.size ≤ 9223372036854775807) (hM : MaxAt w) :
    Calls Tryd.prog 5 #[.int .u16 a, .string s] w fun e w' => e = .returned (.bool true) ∧ Below w.heap.size w w' := by
  obtain ⟨a, rfl⟩ := Int.eq_ofNat_of_zero_le ha.1
  have ha' : a < 65536 := by omega
  clear ha
  obtain ⟨q, hq⟩ : ∃ q : Nat, q = min s.size 200 := ⟨_, rfl⟩
  have hqn : q ≤ s.size := by omega
  have hq2 : q ≤ 200 := by omega
  have hqi : min (s.size : Int) 200 = (q : Int) := by omega
  clear hq
  have Hof := Lib.hid (of_cats ha')
  have Hpt := Lib.hid (par_text ha')
  go_enter Tryd.func5, Tryd.ntmps5
  go_wp2_with fail
  refine (shown_any _ hM).mono ?_
  rintro e w1 ⟨rfl, hB1⟩
  have hM1 := hM.below hB1
  go_wp2_with fail
  refine (list_any a _ ha').mono ?_
  rintro e w2 ⟨v2, rfl, hL2⟩
  obtain ⟨A2, n2, c2, rfl, hn2, hc2, hm2, hr2, hb2⟩ := hL2.slice
  have hB2 := hB1.trans (hb2.mono hB1.size)
  have hM2 := hM1.below hb2
  rw [natsV_ints] at hr2
  have Hn2 := Lib.hid ((List.length_map _).trans hn2 : ((cats a).map fun (k : Nat) => (k : Int)).length = n2)
  clear hL2 hn2 hb2
  go_wp2_with (go_at_call 10; refine (of_any _ A2 n2 c2 _ _ Hn2.out hr2 (by omega)).mono ?_; rintro e w' ⟨rfl, rfl⟩; rw [Hof.out.1, Hof.out.2])
  refine (text_any a _ ha').mono ?_
  rintro e w3 ⟨rfl, hb3⟩
  have hB3 := hB2.trans (hb3.mono hB2.size)
  have hM3 := hM2.below hb3
  have hl := textL_length a
  go_wp2_with fail
  refine (parse_any ⟨(textL a).toArray⟩ _ (by rw [str_size]; omega) hM3).mono ?_
  have ed : (⟨(textL a).toArray⟩ : ByteArray).data.toList = textL a := by simp
  rw [ed, Hpt.out.1, Hpt.out.2]
  rintro e w4 ⟨rfl, hb4⟩
  have hB4 := hB3.trans (hb4.mono hB3.size)
  have hM4 := hM3.below hb4
  clear hl ed hM hM1 hM2 hM3 hr2 hb3 hb4 hB1 hB2 hB3
  go_wp2_with fail
  obtain ⟨t, ht⟩ : ∃ t, t = s.extract 0 q := ⟨_, rfl⟩
  have hts : t.size ≤ 1000000 := by rw [ht, ByteArray.size_extract]; omega
  rw [← ht]
  clear ht
  obtain ⟨hp, hp2⟩ := par_either t.data.toList
  rcases hp2 with ⟨h1, h2⟩ | ⟨h1, h2⟩
  · have et : (⟨(textL (parA t.data.toList)).toArray⟩ : ByteArray) = t := (str_ext h2.symm).symm
    have H1 := Lib.hid h1
    have Ht := Lib.hid et
    clear h1 h2 et
    refine (parse_any t _ hts hM4).mono ?_
    rintro e w5 ⟨rfl, hb5⟩
    rw [H1.out]
    have hB5 := hB4.trans (hb5.mono hB4.size)
    go_wp2_with (go_at_call 26; refine (text_any _ _ hp).mono ?_; rintro e w6 ⟨rfl, hb6⟩; rw [Ht.out])
    go_ret
    exact ⟨rfl, hB5.trans (hb6.mono hB5.size)⟩
  · have H1 := Lib.hid h1
    have H2 := Lib.hid h2
    clear h1 h2
    refine (parse_any t _ hts hM4).mono ?_
    rintro e w5 ⟨rfl, hb5⟩
    rw [H1.out, H2.out]
    have hB5 := hB4.trans (hb5.mono hB4.size)
    go_wp2
    go_ret
    exact ⟨rfl, hB5⟩

theorem back_contract (H : Type) (enc : TypeId × Value → H) (W : World) (base : Nat) (args : Array Value) (ds gs : List (DataW H)) (before : List MemPlace)
    (hval : ∀ (j : Nat) t v, Tryd.f5.params[j]? = some t → args[j]? = some v → Value.okWide Tryd.prog W .any base t v)
    (hW : DataW.Whole enc Tryd.prog Tryd.f5.params.toList Rows.labelBackSpec.vars false W args.toList ds gs before) (hsh : W.ShapedOpen Tryd.prog) :
    Calls Tryd.prog 5 args W fun e W' => ∃ v, e = .returned v ∧ Rows.labelBackSpec.post enc Tryd.prog Tryd.f5 false true false false W args v W' := by
  have hW' := hW
  have hlt : ∀ x ∈ before, x.block < W.heap.size := fun x hx => hW.lt x hx
  have hMax := maxAt hsh
  clear hsh
  obtain ⟨p, q, hA0, hV, rfl, _, _⟩ := hW
  have hA : DataW.TrodAll enc Tryd.prog W 0 (fun _ => true) true Tryd.f5.params.toList args.toList ds p := hA0
  rw [Tryd.params5] at hA hval
  obtain ⟨v0, vs0, d0, ds0, p0, q0, hargs, rfl, rfl, h0, r0⟩ := trodAll_cons hA
  obtain ⟨v1, vs1, d1, ds1, p1, q1, rfl, rfl, rfl, h1, r1⟩ := trodAll_cons r0
  obtain ⟨rfl, rfl, rfl⟩ := trodAll_nil r1
  obtain rfl : args = #[v0, v1] := by cases args; simp_all
  obtain ⟨rfl, rfl⟩ := trodVars_none hV
  clear hA0
  obtain ⟨a0, rfl, rfl, rfl, wa0⟩ := open_int Tryd.underlying24 (hval 0 24 v0 rfl rfl) h0
  have bd0 := bounds_u16 wa0
  obtain ⟨s1, rfl, rfl, rfl, hs1⟩ := Go.ChangeMaps.open_string Tryd.underlying9 (hval 1 9 v1 rfl rfl) h1
  unfold maxLen at hs1
  refine (back_walk a0 s1 W bd0 (by omega) hMax).mono fun e W' ⟨he, hb⟩ => ?_
  subst he
  exact ⟨_, rfl, law_post laid (by kernel_rfl) Tryd.underlying4 (by rw [Tryd.params5]; decide +kernel) rfl hW' ⟨rfl, rfl, rfl⟩ hb⟩

theorem back_reads (os : Os) {H : Type} (enc : TypeId × Value → H) : ∃ x, DataW.whole enc Tryd.prog ((laidWorld os).forCall (fun _ _ => 0) ⟨#[], #[.int .u16 0, .string .empty], []⟩).memory Tryd.f5.params.toList Rows.labelBackSpec.vars false (#[.int .u16 0, .string .empty] : Array Value).toList 8 = some x :=
  Option.isSome_iff_exists.1 (by kernel_rfl)

set_option maxRecDepth 100000 in
theorem back_lifted (os : Os) (started : os.Started) (H : Type) (enc : TypeId × Value → H) (F : Stop.Interp) :
    ReturnsInHanded {} Tryd.checked os 5 .any ((OpenSpec.ofChange Rows.labelBackSpec).preRow enc Tryd.prog Tryd.f5 Rows.labelBackRow.domain false Rows.labelBackRow.laid) (((OpenSpec.ofChange Rows.labelBackSpec).at F).post enc Tryd.prog Tryd.f5 false true false false) := by
  obtain ⟨x, hx⟩ := back_reads os enc
  refine returnsInHanded_of_row (C := Tryd.checked) (s := OpenSpec.ofChange Rows.labelBackSpec) own started (by kernel_rfl) Tryd.func5
    (witness_row_at (enc := enc) (C := Tryd.checked) false (laidWorld os) #[.int .u16 0, .string .empty] rfl (by kernel_rfl) (by kernel_rfl) (by kernel_rfl)
      (OpenSpec.preRow_of_cond 8 hx rfl (fun k hk => by cases hk) (by kernel_rfl) (laid_met os _))) ?_
  intro W base args ds gs before hval hW _ _ _ _ hsh _
  exact back_contract H enc W base args ds gs before hval hW hsh

theorem back_said : Rows.LabelBackSaid :=
  OpenClaim.holds_of_cond 5 Tryd.f5 rfl rfl rfl rfl rfl rfl rfl ⟨rfl, rfl, rfl, rfl, rfl⟩ rfl rfl rfl rfl rfl (by kernel_rfl) Tryd.func5 (by kernel_rfl)
    (of_decide_eq_true (by kernel_rfl)) (by unfold Func.isWrapper; first | (rw [if_pos (by decide +kernel)]; kernel_rfl) | (rw [if_neg (by decide +kernel)]; exact ⟨rfl, rfl⟩))
    (fun os started H enc _ F => by rw [OpenClaim.pre_eq_preRow]; exact back_lifted os started H enc F)

/-- LabelBack is true for every input; what its row lists is tied to the program's text. -/
theorem back_holds : Rows.LabelBackCardSaid :=
  Claim7.holds_tied_plain_at .later [] _ _ _ _ back_said (fun _ h => by cases h) (by kernel_rfl) (fun _ h => by cases h) labelBack_row_tie rfl ⟨rfl, rfl⟩ (by kernel_rfl) rfl
    (plain_of (by kernel_rfl) Tryd.func5 no_looks (by kernel_rfl)) (by kernel_rfl)
end Go.Proofs.YtkihhhcjmlcmpaaDoor
