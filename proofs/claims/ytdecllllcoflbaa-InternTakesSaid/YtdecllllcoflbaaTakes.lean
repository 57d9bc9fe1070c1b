/-
  InternTakes: whatever the bytes, the rows whose bytes those are are the document's.
-/
import Derived.Test.YtdecllllcoflbaaO
namespace Go.Proofs.Ytdecllllcoflbaa
open Go.ChangeShapes Go.WideShapes Go.ChangeAt Go.RowKit Intern

set_option maxHeartbeats 800000 in
theorem takes_walk (l : List UInt8) (A : Option Addr) (n c : Nat) (w : World) (hn : l.length = n) (hr : Rd w w.heap.size A (bytesV l)) (hc : n ≤ c) (hm : n ≤ 9223372036854775807) :
    Calls Try.prog 5 #[.slice A n c] w fun e w' => e = .returned (.bool true) ∧ Below w.heap.size w w' := by
  by_cases h : 1000 < n
  · have h1 : (1000 : Int) < (n : Int) := by omega
    clear hn hr
    go_enter Try.func5, Try.ntmps5
    go_wp2_with (go_at_call 9; refine (shown_any _).mono ?_; rintro e w3 ⟨he, hb3⟩; obtain rfl := he; have HB3 := Lib.hid hb3; clear hb3)
    go_ret
    exact ⟨rfl, HB3.out⟩
  · have h1 : ¬ ((1000 : Int) < (n : Int)) := by omega
    obtain ⟨m, er, hL⟩ : ∃ m er, takR l = ⟨m, 0, er⟩ := by
      unfold takR
      split
      · split
        · exact ⟨_, _, rfl⟩
        · exact ⟨_, _, rfl⟩
      · exact ⟨_, _, rfl⟩
    have hml : m.length ≤ 16 := by
      have : (takR l).rows.length ≤ 16 := by
        unfold takR
        split
        · split
          · simp [length_rowsOf]
          · simp [Res.bad]
        · simp [Res.bad]
      rwa [hL] at this
    have HL : Hid (∀ w1 : World, Below w.heap.size w w1 → Calls Try.prog 22 #[.slice A n c] w1 fun e w' => Hands2 w1 ⟨m, 0, er⟩ e w') := fun w1 h1 => by
      rw [← hL]; exact take_any l A n c w1 hn ((hr.below h1).more h1.size) hc
    have HR : Hid (∀ w1 : World, Below w.heap.size w w1 → Calls Try.prog 23 #[.slice A n c] w1 fun e w' => Hands2 w1 ⟨m, 0, er⟩ e w') := fun w1 h1 => by
      rw [← hL]; exact rtake_any l A n c w1 hn ((hr.below h1).more h1.size)
    clear hn hr hc hm hL h
    go_enter Try.func5, Try.ntmps5
    go_wp2_with (first
      | (go_at_call 9; refine (shown_any _).mono ?_; rintro e w3 ⟨he, hb3⟩; obtain rfl := he; have HB3 := Lib.hid hb3; clear hb3)
      | (go_at_call 22; refine (HL.out _ HB3.out).mono ?_; rintro e w1 ⟨v1, he, hown1, hb1⟩; obtain rfl := he; obtain ⟨A1, d1, hv1, _, _, hr1⟩ := own_rows (l := m) hown1; subst hv1; have HB1 := Lib.hid (HB3.out.trans (hb1.mono HB3.out.size)); have HR1 := Lib.hid hr1; clear hb1 hown1 hr1)
      | (go_at_call 23; refine (HR.out _ HB1.out).mono ?_; rintro e w2 ⟨v2, he, hown2, hb2⟩; obtain rfl := he; obtain ⟨A2, d2, hv2, _, _, hr2⟩ := own_rows (l := m) hown2; subst hv2; have HB2 := Lib.hid (HB1.out.trans (hb2.mono HB1.out.size)); have HR2 := Lib.hid hr2; have HR1' := Lib.hid ((HR1.out.below hb2).more hb2.size); clear hb2 hown2 hr2)
      | (go_at_call 19; refine (same_true m A1 A2 _ d1 d2 _ _ _ rfl HR1'.out HR2.out (Nat.le_trans hml (by decide))).mono ?_; rintro e w4 ⟨he, q4, hw4⟩; obtain rfl := he; have HB4 := Lib.hid (by subst hw4; exact below_drewN HB2.out q4 : Below w.heap.size w w4); clear hw4))
    go_ret
    exact ⟨rfl, HB4.out⟩

theorem takes_contract (H : Type) (enc : TypeId × Value → H) (W : World) (base : Nat) (args : Array Value) (ds gs : List (DataW H)) (before : List MemPlace)
    (hval : ∀ (j : Nat) t v, Try.f5.params[j]? = some t → args[j]? = some v → Value.okWide Try.prog W .any base t v)
    (hW : DataW.Whole enc Try.prog Try.f5.params.toList Rows.internTakesSpec.vars false W args.toList ds gs before) :
    Calls Try.prog 5 args W fun e W' => ∃ v, e = .returned v ∧ Rows.internTakesSpec.post enc Try.prog Try.f5 false true false false W args v W' := by
  have hW' := hW
  have hlt : ∀ x ∈ before, x.block < W.heap.size := fun x hx => hW.lt x hx
  obtain ⟨p, q, hA0, hV, rfl, _, _⟩ := hW
  have hA : DataW.TrodAll enc Try.prog W 0 (fun _ => true) true Try.f5.params.toList args.toList ds p := hA0
  rw [Try.params5] at hA hval
  obtain ⟨v0, vs0, d0, ds0, p0, q0, hargs, rfl, rfl, h0, r0⟩ := trodAll_cons hA
  obtain ⟨rfl, rfl, rfl⟩ := trodAll_nil r0
  obtain rfl : args = #[v0] := by cases args; simp_all
  obtain ⟨rfl, rfl⟩ := trodVars_none hV
  clear hA0
  obtain ⟨A0, n0, c0, l0, rfl, hn0, hc0, hm0, hr0⟩ := open_bytesL Try.underlying39 Try.underlying5 cells5 (hval 0 39 v0 rfl rfl) h0 (fun x hx => hlt x (by simp [hx]))
  unfold maxLen at hm0
  refine (takes_walk l0 A0 n0 c0 W hn0 hr0 hc0 (by omega)).mono fun e W' ⟨he, hb⟩ => ?_
  subst he
  exact ⟨_, rfl, law_post laid (by kernel_rfl) Try.underlying4 (by rw [Try.params5]; decide +kernel) rfl hW' ⟨rfl, rfl, rfl⟩ hb⟩

set_option maxRecDepth 100000 in
theorem takes_lifted (os : Os) (started : os.Started) (H : Type) (enc : TypeId × Value → H) :
    ReturnsInHanded {} Try.checked os 5 .any (Rows.internTakesSpec.pre6 enc Try.prog Try.f5 Rows.internTakesRow.domain false) (Rows.internTakesSpec.post enc Try.prog Try.f5 false true false false) := by
  refine returnsInHanded_of_change (C := Try.checked) own started (by kernel_rfl) Try.func5
    (ChangeSpec.witness6 (enc := enc) (C := Try.checked) false ⟨#[], #[.slice none 0 0], []⟩ 8 (by kernel_rfl) (by kernel_rfl) (by kernel_rfl) (by kernel_rfl)) ?_
  intro W base args ds gs before hval hW _ _
  exact takes_contract H enc W base args ds gs before hval hW

/-- InternTakes is true for every input. -/
theorem takes_holds : Rows.InternTakesSaid :=
  OpenClaim.holds_of_wide 5 Try.f5 rfl rfl rfl rfl rfl rfl rfl ⟨rfl, rfl, rfl, rfl, rfl⟩ rfl rfl rfl rfl rfl (by kernel_rfl) Try.func5 (by kernel_rfl)
    (of_decide_eq_true (by kernel_rfl)) (by unfold Func.isWrapper; first | (rw [if_pos (by decide +kernel)]; kernel_rfl) | (rw [if_neg (by decide +kernel)]; exact ⟨rfl, rfl⟩))
    (fun os started H enc _ => takes_lifted os started H enc)
end Go.Proofs.Ytdecllllcoflbaa
