/-
  InternLays: whatever the rows, their bytes are the document's.
-/
import Derived.Test.YtdecllllcoflbaaO
namespace Go.Proofs.Ytdecllllcoflbaa
open Go.ChangeShapes Go.WideShapes Go.ChangeAt Go.RowKit Intern

theorem str_of {l : List UInt8} {A : Option Addr} {n c B : Nat} {w : World} (hn : l.length = n) (hr : Rd w B A (bytesV l)) : (convert 39 9 (.slice A n c)).run Try.prog w = .ok (.string ⟨l.toArray⟩) w :=
  run_str w 39 9 5 Try.underlying39 Try.underlying5 Try.underlying9 B A n c l hn hr

set_option maxHeartbeats 800000 in
set_option maxRecDepth 100000 in
theorem lays_walk (l : List Rw) (A : Option Addr) (n c : Nat) (w : World) (hn : l.length = n) (hr : Rd w w.heap.size A (rowsV l)) (hc : n ≤ c) (hm : n ≤ 9223372036854775807) (ho : Oks l) :
    Calls Try.prog 4 #[.slice A n c] w fun e w' => e = .returned (.bool true) ∧ Below w.heap.size w w' := by
  obtain ⟨q, hq⟩ : ∃ q, q = min n 20 := ⟨_, rfl⟩
  have hkq : (l.take 20).length = q := by rw [List.length_take, hn, hq]; omega
  have hr6 : Rd w w.heap.size A (rowsV (l.take 20)) := by rw [rowsV_take]; exact hr.take 40
  have ho6 : Oks (l.take 20) := fun r hr => ho r (List.mem_of_mem_take hr)
  have few := fun w => few_any A n c w hc hm
  rw [← hq] at few
  have Few := Lib.hid few
  generalize l.take 20 = k at hkq hr6 ho6
  obtain ⟨bs, er, hL⟩ : ∃ bs er, layR k = (bs, er) := ⟨_, _, rfl⟩
  have HL : Hid (∀ w1 : World, Below w.heap.size w w1 → Calls Try.prog 20 #[.slice A q c] w1 fun e w' => HandsB w1 bs er e w') := fun w1 h1 => by
    have := lay_rows k A q c w1 hkq ((hr6.below h1).more h1.size) ho6
    rw [hL] at this
    exact this
  have HR : Hid (∀ w1 : World, Below w.heap.size w w1 → Calls Try.prog 21 #[.slice A q c] w1 fun e w' => HandsB w1 bs er e w') := fun w1 h1 => by
    have := rlay_rows k A q c w1 hkq ((hr6.below h1).more h1.size) ho6
    rw [hL] at this
    exact this
  clear hn hr hc hm ho hq hkq hr6 ho6 few hL
  go_enter Try.func4, Try.ntmps4
  go_wp2_with (first
    | (go_at_call 10; refine (Few.out _).mono ?_; rintro e w' ⟨rfl, rfl⟩)
    | (go_at_call 20; refine (HL.out _ (Below.refl _ _)).mono ?_; rintro e w1 ⟨v1, he, hown1, hb1⟩; obtain rfl := he; obtain ⟨_, A1, d1, hv1, hd1, _, hr1⟩ := own_rd hown1; subst hv1; have HB1 := Lib.hid hb1; have HR1 := Lib.hid hr1; clear hb1 hown1 hr1)
    | (go_at_call 21; refine (HR.out _ HB1.out).mono ?_; rintro e w2 ⟨v2, he, hown2, hb2⟩; obtain rfl := he; obtain ⟨_, A2, d2, hv2, hd2, _, hr2⟩ := own_rd hown2; subst hv2; have HB2 := Lib.hid (HB1.out.trans (hb2.mono HB1.out.size)); have HR2 := Lib.hid hr2; have HR1' := Lib.hid ((HR1.out.below hb2).more hb2.size); clear hb2 hown2 hr2)
    | (go_at_call 9; refine (shown_any _).mono ?_; rintro e w3 ⟨he, hb3⟩; obtain rfl := he; have HB3 := Lib.hid (HB2.out.trans (hb3.mono HB2.out.size)); have s1 := str_of (c := d1) rfl (HR1'.out.below hb3); have s2 := str_of (c := d2) rfl (HR2.out.below hb3); clear hb3))
  go_ret
  exact ⟨rfl, HB3.out⟩

theorem lays_contract (H : Type) (enc : TypeId × Value → H) (W : World) (base : Nat) (args : Array Value) (ds gs : List (DataW H)) (before : List MemPlace)
    (hval : ∀ (j : Nat) t v, Try.f4.params[j]? = some t → args[j]? = some v → Value.okWide Try.prog W .any base t v)
    (hW : DataW.Whole enc Try.prog Try.f4.params.toList Rows.internLaysSpec.vars false W args.toList ds gs before) :
    Calls Try.prog 4 args W fun e W' => ∃ v, e = .returned v ∧ Rows.internLaysSpec.post enc Try.prog Try.f4 false true false false W args v W' := by
  have hW' := hW
  have hlt : ∀ x ∈ before, x.block < W.heap.size := fun x hx => hW.lt x hx
  obtain ⟨p, q, hA0, hV, rfl, _, _⟩ := hW
  have hA : DataW.TrodAll enc Try.prog W 0 (fun _ => true) true Try.f4.params.toList args.toList ds p := hA0
  rw [Try.params4] at hA hval
  obtain ⟨v0, vs0, d0, ds0, p0, q0, hargs, rfl, rfl, h0, r0⟩ := trodAll_cons hA
  obtain ⟨rfl, rfl, rfl⟩ := trodAll_nil r0
  obtain rfl : args = #[v0] := by cases args; simp_all
  obtain ⟨rfl, rfl⟩ := trodVars_none hV
  clear hA0
  obtain ⟨A0, n0, c0, l0, rfl, hn0, hc0, hm0, hr0, ho0⟩ := open_rowsL (hval 0 22 v0 rfl rfl) h0 (fun x hx => hlt x (by simp [hx]))
  unfold maxLen at hm0
  refine (lays_walk l0 A0 n0 c0 W hn0 hr0 hc0 (by omega) ho0).mono fun e W' ⟨he, hb⟩ => ?_
  subst he
  exact ⟨_, rfl, law_post laid (by kernel_rfl) Try.underlying4 (by rw [Try.params4]; decide +kernel) rfl hW' ⟨rfl, rfl, rfl⟩ hb⟩

set_option maxRecDepth 100000 in
theorem lays_lifted (os : Os) (started : os.Started) (H : Type) (enc : TypeId × Value → H) :
    ReturnsInHanded {} Try.checked os 4 .any (Rows.internLaysSpec.pre6 enc Try.prog Try.f4 Rows.internLaysRow.domain false) (Rows.internLaysSpec.post enc Try.prog Try.f4 false true false false) := by
  refine returnsInHanded_of_change (C := Try.checked) own started (by kernel_rfl) Try.func4
    (ChangeSpec.witness6 (enc := enc) (C := Try.checked) false ⟨#[], #[.slice none 0 0], []⟩ 8 (by kernel_rfl) (by kernel_rfl) (by kernel_rfl) (by kernel_rfl)) ?_
  intro W base args ds gs before hval hW _ _
  exact lays_contract H enc W base args ds gs before hval hW

/-- InternLays is true for every input. -/
theorem lays_holds : Rows.InternLaysSaid :=
  OpenClaim.holds_of_wide 4 Try.f4 rfl rfl rfl rfl rfl rfl rfl ⟨rfl, rfl, rfl, rfl, rfl⟩ rfl rfl rfl rfl rfl (by kernel_rfl) Try.func4 (by kernel_rfl)
    (of_decide_eq_true (by kernel_rfl)) (by unfold Func.isWrapper; first | (rw [if_pos (by decide +kernel)]; kernel_rfl) | (rw [if_neg (by decide +kernel)]; exact ⟨rfl, rfl⟩))
    (fun os started H enc _ => lays_lifted os started H enc)
end Go.Proofs.Ytdecllllcoflbaa
