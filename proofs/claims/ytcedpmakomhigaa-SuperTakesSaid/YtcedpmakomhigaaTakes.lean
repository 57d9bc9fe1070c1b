/-
  SuperTakes: whatever the bytes, the geometry whose superblock they are is the document's.
-/
import Derived.Test.YtcedpmakomhigaaO
namespace Go.Proofs.Ytcedpmakomhigaa
open Go.ChangeShapes Go.WideShapes Go.ChangeAt Go.RowKit

set_option maxHeartbeats 800000 in
set_option maxRecDepth 100000 in
theorem takes_body (l : List UInt8) (A : Option Addr) (n c : Nat) (w : World) (j i g p er : Int) (hr : Rd w w.heap.size A (bytesV l)) (hn : n ≤ 1000)
    (HL : Hid (∀ w, Rd w w.heap.size A (bytesV l) → Calls Try.prog 20 #[.slice A n c] w fun e w' => e = .returned (.tuple #[geoV j i g p, .int .i64 er]) ∧ Below w.heap.size w w'))
    (HR : Hid (∀ w, Rd w w.heap.size A (bytesV l) → Calls Try.prog 21 #[.slice A n c] w fun e w' => e = .returned (.tuple #[geoV j i g p, .int .i64 er]) ∧ Below w.heap.size w w')) :
    Calls Try.prog 5 #[.slice A n c] w fun e w' => e = .returned (.bool true) ∧ Below w.heap.size w w' := by
  have Hr := Lib.hid hr
  have gs := geo_same
  have gg := guard_at23
  clear hr
  unfold geoV at *
  go_enter Try.func5, Try.ntmps5
  go_wp2_with (first
    | (go_at_call 13; refine (shown_any _).mono ?_; rintro e w1 ⟨rfl, hb1⟩; have HB1 := Lib.hid hb1; clear hb1)
    | (go_at_call 20; refine (HL.out _ ((Hr.out.below HB1.out).more HB1.out.size)).mono ?_; rintro e w2 ⟨rfl, hb2⟩; have HB2 := Lib.hid (HB1.out.trans (hb2.mono HB1.out.size)); clear hb2)
    | fail)
  have HBa := Lib.hid (HB2.out.alloc HB2.out.size (.cells #[.int .i64 j, .int .i64 i, .int .i64 g, .int .i64 p] 23))
  refine (HR.out _ ((Hr.out.below HBa.out).more HBa.out.size)).mono ?_
  rintro e w3 ⟨rfl, hb3⟩
  obtain ⟨c0, c1, c2, c3, hb3', hs3⟩ := kept_cells hb3
  have HB3 := Lib.hid (HB2.out.trans (hb3'.mono HB2.out.size))
  clear hb3 hb3'
  go_wp2_with fail
  go_ret
  refine ⟨rfl, ?_⟩
  exact HB3.out.alloc HB3.out.size _

set_option maxRecDepth 100000 in
theorem takes_long (A : Option Addr) (n c : Nat) (w : World) (hn : ¬ n ≤ 1000) : Calls Try.prog 5 #[.slice A n c] w fun e w' => e = .returned (.bool true) ∧ Below w.heap.size w w' := by
  have hn' : 1000 < n := by omega
  go_enter Try.func5, Try.ntmps5
  go_wp2_with (go_at_call 13; refine (shown_any _).mono ?_; rintro e w1 ⟨rfl, hb1⟩; have HB1 := Lib.hid hb1; clear hb1)
  go_ret
  exact ⟨rfl, HB1.out⟩

theorem takes_walk (l : List UInt8) (A : Option Addr) (n c : Nat) (w : World) (hn : l.length = n) (hr : Rd w w.heap.size A (bytesV l)) (hc : n ≤ c) :
    Calls Try.prog 5 #[.slice A n c] w fun e w' => e = .returned (.bool true) ∧ Below w.heap.size w w' := by
  by_cases h1 : n ≤ 1000
  · by_cases h64 : n = 64
    · subst h64
      by_cases hv : Valid (numL l 4) (numL l 6) (numL l 8) (numL l 10)
      · by_cases he : l = superL (numL l 4) (numL l 6) (numL l 8) (numL l 10)
        · exact takes_body l A 64 c w _ _ _ _ 0 hr h1 (Lib.hid fun w hr => stake_yes l A c w hn hr hc hv he) (Lib.hid fun w hr => rtake_yes l A c w hn hr hv he)
        · exact takes_body l A 64 c w 0 0 0 0 90 hr h1 (Lib.hid fun w hr => stake_not l A c w hn hr hc hv he) (Lib.hid fun w hr => rtake_not l A c w hn hr hv he)
      · exact takes_body l A 64 c w 0 0 0 0 90 hr h1 (Lib.hid fun w hr => stake_bad l A c w hn hr hc hv) (Lib.hid fun w hr => rtake_bad l A c w hn hr hv)
    · exact takes_body l A n c w 0 0 0 0 90 hr h1 (Lib.hid fun w _ => stake_len A n c w h64) (Lib.hid fun w _ => rtake_len A n c w h64)
  · exact takes_long A n c w h1

theorem takes_contract (H : Type) (enc : TypeId × Value → H) (W : World) (base : Nat) (args : Array Value) (ds gs : List (DataW H)) (before : List MemPlace)
    (hval : ∀ (j : Nat) t v, Try.f5.params[j]? = some t → args[j]? = some v → Value.okWide Try.prog W .any base t v)
    (hW : DataW.Whole enc Try.prog Try.f5.params.toList Rows.superTakesSpec.vars false W args.toList ds gs before) :
    Calls Try.prog 5 args W fun e W' => ∃ v, e = .returned v ∧ Rows.superTakesSpec.post enc Try.prog Try.f5 false true false false W args v W' := by
  have hW' := hW
  have hlt : ∀ x ∈ before, x.block < W.heap.size := fun x hx => hW.lt x hx
  obtain ⟨p, q, hA0, hV, rfl, _, _⟩ := hW
  have hA : DataW.TrodAll enc Try.prog W 0 (fun _ => true) true Try.f5.params.toList args.toList ds p := hA0
  rw [Try.params5] at hA hval
  obtain ⟨v0, vs0, d0, ds0, p0, q0, hargs, rfl, rfl, h0, r0⟩ := trodAll_cons hA
  obtain ⟨rfl, rfl, rfl⟩ := trodAll_nil r0
  obtain rfl : args = #[v0] := by cases args; simp_all
  obtain ⟨rfl, rfl⟩ := trodVars_none hV
  clear hA0
  obtain ⟨A0, n0, c0, l0, rfl, hn0, hc0, hm0, hr0⟩ := open_bytesL Try.underlying35 Try.underlying5 cells5 (hval 0 35 v0 rfl rfl) h0 (fun x hx => hlt x (by simp [hx]))
  unfold maxLen at hm0
  refine (takes_walk l0 A0 n0 c0 W hn0 hr0 hc0).mono fun e W' ⟨he, hb⟩ => ?_
  subst he
  exact ⟨_, rfl, law_post laid (by kernel_rfl) Try.underlying4 (by rw [Try.params5]; decide +kernel) rfl hW' ⟨rfl, rfl, rfl⟩ hb⟩

set_option maxRecDepth 100000 in
theorem takes_lifted (os : Os) (started : os.Started) (H : Type) (enc : TypeId × Value → H) :
    ReturnsInHanded {} Try.checked os 5 .any (Rows.superTakesSpec.pre6 enc Try.prog Try.f5 Rows.superTakesRow.domain false) (Rows.superTakesSpec.post enc Try.prog Try.f5 false true false false) := by
  refine returnsInHanded_of_change (C := Try.checked) own started (by kernel_rfl) Try.func5
    (ChangeSpec.witness6 (enc := enc) (C := Try.checked) false ⟨#[], #[.slice none 0 0], []⟩ 8 (by kernel_rfl) (by kernel_rfl) (by kernel_rfl) (by kernel_rfl)) ?_
  intro W base args ds gs before hval hW _ _
  exact takes_contract H enc W base args ds gs before hval hW

/-- SuperTakes is true for every input. -/
theorem takes_holds : Rows.SuperTakesSaid :=
  OpenClaim.holds_of_wide 5 Try.f5 rfl rfl rfl rfl rfl rfl rfl ⟨rfl, rfl, rfl, rfl, rfl⟩ rfl rfl rfl rfl rfl (by kernel_rfl) Try.func5 (by kernel_rfl)
    (of_decide_eq_true (by kernel_rfl)) (by unfold Func.isWrapper; first | (rw [if_pos (by decide +kernel)]; kernel_rfl) | (rw [if_neg (by decide +kernel)]; exact ⟨rfl, rfl⟩))
    (fun os started H enc _ => takes_lifted os started H enc)
end Go.Proofs.Ytcedpmakomhigaa
