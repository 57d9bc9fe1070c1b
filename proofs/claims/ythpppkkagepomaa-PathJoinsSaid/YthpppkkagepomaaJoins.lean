/-
  PathJoins: whatever the texts (the first 30, of up to 100 bytes each), the path of names is the document's.
-/
import Derived.Test.YthpppkkagepomaaO
namespace Go.Proofs.Ythpppkkagepomaa
open Go.ChangeShapes Go.WideShapes Go.ChangeAt Go.RowKit Path

set_option maxHeartbeats 1600000 in
theorem joins_walk (l : List (List UInt8)) (A : Option Addr) (n c : Nat) (w : World) (hn : l.length = n) (hc : n ≤ c) (hm : c ≤ maxLen) (hr : Rd w w.heap.size A (strsV l)) :
    Calls Try.prog 4 #[.slice A n c] w fun e w' => e = .returned (.bool true) ∧ Below w.heap.size w w' := by
  have hsc : someN l ≤ c := by have := some_le l; omega
  have hs30 := some_30 l
  have HF : Hid (∀ u : World, Below w.heap.size w u → Calls Try.prog 17 #[.slice A n c] u fun e w' => e = .returned (.slice A (someN l) c) ∧ u = w') := Lib.hid (fun u h => some_any l A n c u hn hc hm ((hr.below h).more h.size))
  have HJ : Hid (∀ u : World, Below w.heap.size w u → Calls Try.prog 16 #[.slice A (someN l) c] u fun e w' => HandsJ u (joinP (l.take (someN l))) e w') := Lib.hid (fun u h => join_any (l.take (someN l)) A (someN l) c u (some_len l) hsc (some_rd ((hr.below h).more h.size)) (by omega))
  have HK : Hid (∀ u : World, Below w.heap.size w u → Calls Try.prog 18 #[.slice A (someN l) c] u fun e w' => HandsJ u (joinP (l.take (someN l))) e w') := Lib.hid (fun u h => rjoin_any (l.take (someN l)) A (someN l) c u (some_len l) (some_rd ((hr.below h).more h.size)) (by omega))
  generalize joinP (l.take (someN l)) = r at *
  obtain ⟨x, k⟩ := r
  unfold HandsJ at HJ HK
  simp only at HJ HK
  generalize (⟨x.toArray⟩ : ByteArray) = X at *
  generalize someN l = p at *
  clear hn hc hm hr
  have HB0 := Lib.hid (Below.refl w.heap.size w)
  go_enter Try.func4, Try.ntmps4
  go_wp2_with (first
    | (go_at_call 17; (with_reducible refine (HF.out _ HB1.out).mono ?_); rintro e wf ⟨he, hwf⟩; obtain rfl := he; subst hwf)
    | (go_at_call 17; (with_reducible refine (HF.out _ HB0.out).mono ?_); rintro e wf ⟨he, hwf⟩; obtain rfl := he; subst hwf)
    | (go_at_call 16; (with_reducible refine (HJ.out _ HB0.out).mono ?_); rintro e w1 ⟨he, hb1⟩; obtain rfl := he; have HB1 := Lib.hid hb1; clear hb1)
    | (go_at_call 18; (with_reducible refine (HK.out _ HB1.out).mono ?_); rintro e w2 ⟨he, hb2⟩; obtain rfl := he; have HB2 := Lib.hid (HB1.out.trans (hb2.mono HB1.out.size)); clear hb2)
    | (go_at_call 14; (with_reducible refine (shown_any _).mono ?_); rintro e w3 ⟨he, hb3⟩; obtain rfl := he; have HB3 := Lib.hid (HB2.out.trans (hb3.mono HB2.out.size)); clear hb3))
  go_ret
  exact ⟨rfl, HB3.out⟩

theorem joins_contract (H : Type) (enc : TypeId × Value → H) (W : World) (base : Nat) (args : Array Value) (ds gs : List (DataW H)) (before : List MemPlace)
    (hval : ∀ (j : Nat) t v, Try.f4.params[j]? = some t → args[j]? = some v → Value.okWide Try.prog W .any base t v)
    (hW : DataW.Whole enc Try.prog Try.f4.params.toList Rows.pathJoinsSpec.vars false W args.toList ds gs before) :
    Calls Try.prog 4 args W fun e W' => ∃ v, e = .returned v ∧ Rows.pathJoinsSpec.post enc Try.prog Try.f4 false true false false W args v W' := by
  have hW' := hW
  have hlt : ∀ x ∈ before, x.block < W.heap.size := fun x hx => hW.lt x hx
  obtain ⟨p, q, hA0, hV, rfl, _, _⟩ := hW
  have hA : DataW.TrodAll enc Try.prog W 0 (fun _ => true) true Try.f4.params.toList args.toList ds p := hA0
  rw [Try.params4] at hA hval
  obtain ⟨v0, vs0, d0, ds0, p0, q0, hargs, rfl, rfl, h0, r0⟩ := trodAll_cons hA
  obtain ⟨rfl, rfl, rfl⟩ := trodAll_nil r0
  obtain rfl : args = #[v0] := by cases args; simp_all
  obtain ⟨rfl, rfl⟩ := trodVars_none hV
  clear hA0
  obtain ⟨A0, n0, c0, l0, rfl, hn0, hc0, hm0, hr0, ho0⟩ := Path.open_strsL Try.underlying22 Try.underlying9 cells9 (hval 0 22 v0 rfl rfl) h0 (fun x hx => hlt x (by simp [hx]))
  unfold maxLen at hm0
  refine (joins_walk l0 A0 n0 c0 W hn0 hc0 (by unfold maxLen; omega) hr0).mono fun e W' ⟨he, hb⟩ => ?_
  subst he
  exact ⟨_, rfl, law_post laid (by kernel_rfl) Try.underlying4 (by rw [Try.params4]; decide +kernel) rfl hW' ⟨rfl, rfl, rfl⟩ hb⟩

set_option maxRecDepth 100000 in
theorem joins_lifted (os : Os) (started : os.Started) (H : Type) (enc : TypeId × Value → H) :
    ReturnsInHanded {} Try.checked os 4 .any (Rows.pathJoinsSpec.pre6 enc Try.prog Try.f4 Rows.pathJoinsRow.domain false) (Rows.pathJoinsSpec.post enc Try.prog Try.f4 false true false false) := by
  refine returnsInHanded_of_change (C := Try.checked) own started (by kernel_rfl) Try.func4
    (ChangeSpec.witness6 (enc := enc) (C := Try.checked) false ⟨#[], #[.slice none 0 0], []⟩ 8 (by kernel_rfl) (by kernel_rfl) (by kernel_rfl) (by kernel_rfl)) ?_
  intro W base args ds gs before hval hW _ _
  exact joins_contract H enc W base args ds gs before hval hW

/-- PathJoins is true for every input. -/
theorem joins_holds : Rows.PathJoinsSaid :=
  OpenClaim.holds_of_wide 4 Try.f4 rfl rfl rfl rfl rfl rfl rfl ⟨rfl, rfl, rfl, rfl, rfl⟩ rfl rfl rfl rfl rfl (by kernel_rfl) Try.func4 (by kernel_rfl)
    (of_decide_eq_true (by kernel_rfl)) (by unfold Func.isWrapper; first | (rw [if_pos (by decide +kernel)]; kernel_rfl) | (rw [if_neg (by decide +kernel)]; exact ⟨rfl, rfl⟩))
    (fun os started H enc _ => joins_lifted os started H enc)
end Go.Proofs.Ythpppkkagepomaa
