/-
  InodeWays: whatever the number and the pointers, the way to a file's block, how many blocks bytes need, and a block of pointers, are the document's.
-/
import Derived.Test.YtahpdnfnaimbnaaO
namespace Go.Proofs.Ytahpdnfnaimbnaa
open Go.ChangeShapes Go.WideShapes Go.ChangeAt Go.RowKit Inode

set_option maxHeartbeats 1600000 in
set_option maxRecDepth 100000 in
theorem ways_walk (a : Int) (ha : -9223372036854775808 ≤ a ∧ a ≤ 9223372036854775807) (l : List Int) (A : Option Addr) (n c : Nat) (w : World) (hn : l.length = n) (hc : n ≤ c) (hm : c ≤ 9223372036854775807) (hr : Rd w w.heap.size A (intsV l)) :
    Calls Try.prog 5 #[.int .i64 a, .slice A n c] w fun e w' => e = .returned (.bool true) ∧ Below w.heap.size w w' := by
  obtain ⟨q, hq⟩ : ∃ q : Nat, min n 100 = q := ⟨_, rfl⟩
  have hmin : min (n : Int) 100 = (q : Int) := by omega
  have hkq : (l.take 100).length = q := by rw [List.length_take, hn]; omega
  have hrk : Rd w w.heap.size A (intsV (l.take 100)) := by rw [intsV_take]; exact hr.take 100
  generalize l.take 100 = k at hkq hrk
  obtain ⟨bs, er, hB⟩ : ∃ bs er, bloP k = (bs, er) := ⟨_, _, rfl⟩
  have H22 : Hid (∀ W : World, Below w.heap.size w W → Calls Try.prog 22 #[.slice A q c] W fun e w' => HandsB W bs er e w') := fun W h => by
    have := blo_any k A q c W hkq ((hrk.below h).more h.size)
    rwa [hB] at this
  have H23 : Hid (∀ W : World, Below w.heap.size w W → Calls Try.prog 23 #[.slice A q c] W fun e w' => HandsB W bs er e w') := fun W h => by
    have := rblo_any k A q c W hkq ((hrk.below h).more h.size)
    rwa [hB] at this
  obtain ⟨x0, x1, x2, x3, hx⟩ : ∃ x0 x1 x2 x3, wayP a = (x0, x1, x2, x3) := ⟨_, _, _, _, rfl⟩
  have H20 : Hid (∀ W : World, Calls Try.prog 20 #[.int .i64 a] W fun e w' => e = .returned (.tuple #[.int .i64 x0, .int .i64 x1, .int .i64 x2, .int .i64 x3]) ∧ W = w') := fun W => by
    have := way_any a W ha.1 ha.2
    rw [hx] at this
    exact this
  have H21 : Hid (∀ W : World, Calls Try.prog 21 #[.int .i64 a] W fun e w' => e = .returned (.tuple #[.int .i64 x0, .int .i64 x1, .int .i64 x2, .int .i64 x3]) ∧ W = w') := fun W => by
    have := rway_any a W ha.1 ha.2
    rw [hx] at this
    exact this
  have H24 : Hid (∀ W : World, Calls Try.prog 24 #[.int .i64 a] W fun e w' => e = .returned (.int .i64 (blocksP a)) ∧ W = w') := fun W => blocks_any a W ha.1 ha.2
  have H25 : Hid (∀ W : World, Calls Try.prog 25 #[.int .i64 a] W fun e w' => e = .returned (.int .i64 (blocksP a)) ∧ W = w') := fun W => rblocks_any a W ha.1 ha.2
  obtain ⟨t, ht⟩ : ∃ t, bs.length = t := ⟨_, rfl⟩
  have Ht := Lib.hid ht
  have hqc : q ≤ c := by omega
  have hqn : q ≤ n := by omega
  have HQ := Lib.hid hq
  generalize blocksP a = u at *
  clear hB hx hkq hrk hr hn ht hq ha
  go_enter Try.func5, Try.ntmps5
  go_wp2_with (first
    | (go_at_call 20; (with_reducible refine (H20.out _).mono ?_); rintro e w' ⟨he, hw'⟩; obtain rfl := he; obtain rfl := hw')
    | (go_at_call 21; (with_reducible refine (H21.out _).mono ?_); rintro e w' ⟨he, hw'⟩; obtain rfl := he; obtain rfl := hw'))
  case' inl h =>
    have h100 : (100 : Nat) = q := by have := HQ.out; omega
    rw [h100]
  case' inr h =>
    have hnq : n = q := by have := HQ.out; omega
    rw [hnq]
  all_goals
    go_wp2_with (first
      | (go_at_call 24; (with_reducible refine (H24.out _).mono ?_); rintro e w' ⟨he, hw'⟩; obtain rfl := he; obtain rfl := hw')
      | (go_at_call 25; (with_reducible refine (H25.out _).mono ?_); rintro e w' ⟨he, hw'⟩; obtain rfl := he; obtain rfl := hw')
      | (go_at_call 22; (with_reducible refine (H22.out _ (Below.refl _ _)).mono ?_); rintro e w1 hh; obtain ⟨A1, d1, he, -, hr1, hb1⟩ := hh.got Ht.out; obtain rfl := he; have HB1 := Lib.hid hb1; have HR1 := Lib.hid hr1; clear hh hb1 hr1)
      | (go_at_call 23; (with_reducible refine (H23.out _ HB1.out).mono ?_); rintro e w2 hh; obtain ⟨A2, d2, he, -, hr2, hb2⟩ := hh.got Ht.out; obtain rfl := he; have HB2 := Lib.hid (HB1.out.trans (hb2.mono HB1.out.size)); have HR12 := Lib.hid ((HR1.out.below hb2).more hb2.size); have HR2 := Lib.hid hr2; clear hh hb2 hr2)
      | (go_at_call 12; (with_reducible refine (shown_any _).mono ?_); rintro e w3 ⟨he, hb3⟩; obtain rfl := he; have HB3 := Lib.hid (HB2.out.trans (hb3.mono HB2.out.size)); have s1 := str_of (c := d1) Ht.out (HR12.out.below hb3); have s2 := str_of (c := d2) Ht.out (HR2.out.below hb3); clear hb3))
    go_ret
    exact ⟨rfl, HB3.out⟩

theorem ways_contract (H : Type) (enc : TypeId × Value → H) (W : World) (base : Nat) (args : Array Value) (ds gs : List (DataW H)) (before : List MemPlace)
    (hval : ∀ (j : Nat) t v, Try.f5.params[j]? = some t → args[j]? = some v → Value.okWide Try.prog W .any base t v)
    (hW : DataW.Whole enc Try.prog Try.f5.params.toList Rows.inodeWaysSpec.vars false W args.toList ds gs before) :
    Calls Try.prog 5 args W fun e W' => ∃ v, e = .returned v ∧ Rows.inodeWaysSpec.post enc Try.prog Try.f5 false true false false W args v W' := by
  have hW' := hW
  have hlt : ∀ x ∈ before, x.block < W.heap.size := fun x hx => hW.lt x hx
  obtain ⟨p, q, hA0, hV, rfl, _, _⟩ := hW
  have hA : DataW.TrodAll enc Try.prog W 0 (fun _ => true) true Try.f5.params.toList args.toList ds p := hA0
  rw [Try.params5] at hA hval
  obtain ⟨v0, vs0, d0, ds0, p0, q0, hargs, rfl, rfl, h0, r0⟩ := trodAll_cons hA
  obtain ⟨v1, vs1, d1, ds1, p1, q1, rfl, rfl, rfl, h1, r1⟩ := trodAll_cons r0
  obtain ⟨rfl, rfl, rfl⟩ := trodAll_nil r1
  obtain rfl : args = #[v0, v1] := by cases args; simp_all
  obtain ⟨rfl, rfl⟩ := trodVars_none hV
  clear hA0
  obtain ⟨a0, rfl, rfl, rfl, wa0⟩ := open_int Try.underlying3 (hval 0 3 v0 rfl rfl) h0
  have bd0 := bounds_i64 wa0
  obtain ⟨A1, n1, c1, l1, rfl, hn1, hc1, hm1, hr1⟩ := open_intsL Try.underlying33 Try.underlying3 cells3 (hval 1 33 v1 rfl rfl) h1 (fun x hx => hlt x (by simp [hx]))
  unfold maxLen at hm1
  refine (ways_walk a0 ⟨by omega, by omega⟩ l1 A1 n1 c1 W hn1 hc1 (by omega) hr1).mono fun e W' ⟨he, hb⟩ => ?_
  subst he
  exact ⟨_, rfl, law_post laid (by kernel_rfl) Try.underlying4 (by rw [Try.params5]; decide +kernel) rfl hW' ⟨rfl, rfl, rfl⟩ hb⟩

set_option maxRecDepth 100000 in
theorem ways_lifted (os : Os) (started : os.Started) (H : Type) (enc : TypeId × Value → H) :
    ReturnsInHanded {} Try.checked os 5 .any (Rows.inodeWaysSpec.pre6 enc Try.prog Try.f5 Rows.inodeWaysRow.domain false) (Rows.inodeWaysSpec.post enc Try.prog Try.f5 false true false false) := by
  refine returnsInHanded_of_change (C := Try.checked) own started (by kernel_rfl) Try.func5
    (ChangeSpec.witness6 (enc := enc) (C := Try.checked) false ⟨#[], #[.int .i64 0, .slice none 0 0], []⟩ 8 (by kernel_rfl) (by kernel_rfl) (by kernel_rfl) (by kernel_rfl)) ?_
  intro W base args ds gs before hval hW _ _
  exact ways_contract H enc W base args ds gs before hval hW

/-- InodeWays is true for every input. -/
theorem ways_holds : Rows.InodeWaysSaid :=
  OpenClaim.holds_of_wide 5 Try.f5 rfl rfl rfl rfl rfl rfl rfl ⟨rfl, rfl, rfl, rfl, rfl⟩ rfl rfl rfl rfl rfl (by kernel_rfl) Try.func5 (by kernel_rfl)
    (of_decide_eq_true (by kernel_rfl)) (by unfold Func.isWrapper; first | (rw [if_pos (by decide +kernel)]; kernel_rfl) | (rw [if_neg (by decide +kernel)]; exact ⟨rfl, rfl⟩))
    (fun os started H enc _ => ways_lifted os started H enc)
end Go.Proofs.Ytahpdnfnaimbnaa
