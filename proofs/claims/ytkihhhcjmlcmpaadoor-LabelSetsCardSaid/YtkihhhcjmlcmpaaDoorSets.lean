/-
  LabelSets: whatever numbers and two labels, the label of the numbers (the first 100), a label's list, and how two labels stand to one another, are the document's.
-/
import Derived.Test.YtkihhhcjmlcmpaaDoorD
import Derived.Test.YtkihhhcjmlcmpaaDoorO
namespace Go.Proofs.YtkihhhcjmlcmpaaDoor
open Go.ChangeShapes Go.WideShapes Go.ChangeAt Go.RowKit

theorem sless_from {w0 w : World} (a b : Nat) (ha : a < 65536) (hb : b < 65536) (hB : Below w0.heap.size w0 w) :
    Calls Tryd.prog 22 #[.int .u16 (a : Int), .int .u16 (b : Int)] w fun e w' => e = .returned (.bool (lessB a b)) ∧ Below w0.heap.size w0 w' :=
  (less_any a b w ha hb).mono fun _ _ ⟨h1, h2⟩ => ⟨h1, hB.trans (h2.mono hB.size)⟩
theorem srless_from {w0 w : World} (a b : Nat) (ha : a < 65536) (hb : b < 65536) (hB : Below w0.heap.size w0 w) :
    Calls Tryd.prog 23 #[.int .u16 (a : Int), .int .u16 (b : Int)] w fun e w' => e = .returned (.bool (lessB a b)) ∧ Below w0.heap.size w0 w' :=
  (rless_any a b w ha hb).mono fun _ _ ⟨h1, h2⟩ => ⟨h1, hB.trans (h2.mono hB.size)⟩

set_option maxRecDepth 100000 in
set_option maxHeartbeats 1600000 in
theorem sets_walk (l : List Int) (A : Option Addr) (n c : Nat) (a b : Int) (w : World) (hn : l.length = n) (hr : Rd w w.heap.size A (intsV l)) (hc : n ≤ c) (hm : c ≤ 9223372036854775807)
    (ha : 0 ≤ a ∧ a ≤ 65535) (hb : 0 ≤ b ∧ b ≤ 65535) (hM : MaxAt w) :
    Calls Tryd.prog 3 #[.slice A n c, .int .u16 a, .int .u16 b] w fun e w' => e = .returned (.bool true) ∧ Below w.heap.size w w' := by
  obtain ⟨a, rfl⟩ := Int.eq_ofNat_of_zero_le ha.1
  obtain ⟨b, rfl⟩ := Int.eq_ofNat_of_zero_le hb.1
  have ha' : a < 65536 := by omega
  have hb' : b < 65536 := by omega
  clear ha hb
  have hr5 := hr.take 100
  have et : (intsV l).take 100 = intsV (l.take 100) := by simp [intsV, List.map_take]
  rw [et] at hr5
  obtain ⟨q, hq⟩ : ∃ q : Nat, q = min n 100 := ⟨_, rfl⟩
  have hl : (l.take 100).length = q := by rw [List.length_take, hn]; omega
  have hqn : q ≤ n := by omega
  have hqi : min (n : Int) 100 = (q : Int) := by omega
  generalize l.take 100 = x at *
  have Hl := Lib.hid hl
  clear et hr hn hl hq
  go_enter Tryd.func3, Tryd.ntmps3
  go_wp2_with (first
    | (go_at_call 10; (with_reducible refine (of_any x A _ c w.heap.size _ Hl.out hr5 (by omega)).mono ?_); rintro e w' ⟨rfl, rfl⟩)
    | (go_at_call 11; (with_reducible refine (rof_any x A _ c w.heap.size _ Hl.out hr5 (by omega)).mono ?_); rintro e w' ⟨rfl, rfl⟩)
    | (go_at_call 12; refine (shown_any _ hM).mono ?_; rintro e w1 ⟨rfl, hB1⟩))
  refine (list_any a _ ha').mono ?_
  rintro e w2 ⟨v2, rfl, hL2⟩
  obtain ⟨A2, n2, c2, rfl, hn2, hc2, hm2, hr2, hb2⟩ := hL2.slice
  have Hn2 := Lib.hid hn2
  have hB2 := hB1.trans (hb2.mono hB1.size)
  clear hL2 hn2
  go_wp2_with fail
  refine (rlist_any a _ ha').mono ?_
  rintro e w3 ⟨v3, rfl, hL3⟩
  obtain ⟨A3, n3, c3, rfl, hn3, hc3, hm3, hr3, hb3⟩ := hL3.slice
  obtain rfl : n2 = n3 := Hn2.out.symm.trans hn3
  have hr2' := (hr2.below hb3).more hb3.size
  have hB3 := hB2.trans (hb3.mono hB2.size)
  clear hL3 hn3 hr2 hb2 hb3
  go_wp2_with fail
  refine (same_true (cats a) A2 A3 n2 c2 c3 _ _ Hn2.out hr2' hr3 (by omega) hc2 hc3).mono ?_
  rintro e w4 ⟨rfl, k4, rfl⟩
  have hB4 := below_dr hB3 k4
  clear hr2' hr3
  go_wp2_with (first
    | (go_at_call 16; refine (flows_any _ _ _ ha' hb').mono ?_; rintro e w' ⟨rfl, rfl⟩)
    | (go_at_call 17; refine (rflows_any _ _ _ ha' hb').mono ?_; rintro e w' ⟨rfl, rfl⟩)
    | (go_at_call 18; refine (join_any _ _ _ ha' hb').mono ?_; rintro e w' ⟨rfl, rfl⟩)
    | (go_at_call 19; refine (rjoin_any _ _ _ ha' hb').mono ?_; rintro e w' ⟨rfl, rfl⟩)
    | (go_at_call 20; refine (meet_any _ _ _ ha' hb').mono ?_; rintro e w' ⟨rfl, rfl⟩)
    | (go_at_call 21; refine (rmeet_any _ _ _ ha' hb').mono ?_; rintro e w' ⟨rfl, rfl⟩)
    | (go_at_call 22; refine (sless_from (w0 := w) _ _ ha' hb' hB4).mono ?_; rintro e w5 ⟨rfl, hB5⟩)
    | (go_at_call 23; refine (srless_from (w0 := w) _ _ ha' hb' hB5).mono ?_; rintro e w6 ⟨rfl, hB6⟩))
  go_ret
  exact ⟨rfl, hB6⟩

theorem sets_contract (H : Type) (enc : TypeId × Value → H) (W : World) (base : Nat) (args : Array Value) (ds gs : List (DataW H)) (before : List MemPlace)
    (hval : ∀ (j : Nat) t v, Tryd.f3.params[j]? = some t → args[j]? = some v → Value.okWide Tryd.prog W .any base t v)
    (hW : DataW.Whole enc Tryd.prog Tryd.f3.params.toList Rows.labelSetsSpec.vars false W args.toList ds gs before) (hsh : W.ShapedOpen Tryd.prog) :
    Calls Tryd.prog 3 args W fun e W' => ∃ v, e = .returned v ∧ Rows.labelSetsSpec.post enc Tryd.prog Tryd.f3 false true false false W args v W' := by
  have hW' := hW
  have hlt : ∀ x ∈ before, x.block < W.heap.size := fun x hx => hW.lt x hx
  have hMax := maxAt hsh
  clear hsh
  obtain ⟨p, q, hA0, hV, rfl, _, _⟩ := hW
  have hA : DataW.TrodAll enc Tryd.prog W 0 (fun _ => true) true Tryd.f3.params.toList args.toList ds p := hA0
  rw [Tryd.params3] at hA hval
  obtain ⟨v0, vs0, d0, ds0, p0, q0, hargs, rfl, rfl, h0, r0⟩ := trodAll_cons hA
  obtain ⟨v1, vs1, d1, ds1, p1, q1, rfl, rfl, rfl, h1, r1⟩ := trodAll_cons r0
  obtain ⟨v2, vs2, d2, ds2, p2, q2, rfl, rfl, rfl, h2, r2⟩ := trodAll_cons r1
  obtain ⟨rfl, rfl, rfl⟩ := trodAll_nil r2
  obtain rfl : args = #[v0, v1, v2] := by cases args; simp_all
  obtain ⟨rfl, rfl⟩ := trodVars_none hV
  clear hA0
  obtain ⟨A0, n0, c0, l0, rfl, hn0, hc0, hm0, hr0⟩ := open_intsL Tryd.underlying22 Tryd.underlying3 cells3 (hval 0 22 v0 rfl rfl) h0 (fun x hx => hlt x (by simp [hx]))
  unfold maxLen at hm0
  obtain ⟨a1, rfl, rfl, rfl, wa1⟩ := open_int Tryd.underlying24 (hval 1 24 v1 rfl rfl) h1
  have bd1 := bounds_u16 wa1
  obtain ⟨a2, rfl, rfl, rfl, wa2⟩ := open_int Tryd.underlying24 (hval 2 24 v2 rfl rfl) h2
  have bd2 := bounds_u16 wa2
  refine (sets_walk l0 A0 n0 c0 a1 a2 W hn0 hr0 hc0 hm0 bd1 bd2 hMax).mono fun e W' ⟨he, hb⟩ => ?_
  subst he
  exact ⟨_, rfl, law_post laid (by kernel_rfl) Tryd.underlying4 (by rw [Tryd.params3]; decide +kernel) rfl hW' ⟨rfl, rfl, rfl⟩ hb⟩

theorem sets_reads (os : Os) {H : Type} (enc : TypeId × Value → H) : ∃ x, DataW.whole enc Tryd.prog ((laidWorld os).forCall (fun _ _ => 0) ⟨#[], #[.slice none 0 0, .int .u16 0, .int .u16 0], []⟩).memory Tryd.f3.params.toList Rows.labelSetsSpec.vars false (#[.slice none 0 0, .int .u16 0, .int .u16 0] : Array Value).toList 8 = some x :=
  Option.isSome_iff_exists.1 (by kernel_rfl)

set_option maxRecDepth 100000 in
theorem sets_lifted (os : Os) (started : os.Started) (H : Type) (enc : TypeId × Value → H) (F : Stop.Interp) :
    ReturnsInHanded {} Tryd.checked os 3 .any ((OpenSpec.ofChange Rows.labelSetsSpec).preRow enc Tryd.prog Tryd.f3 Rows.labelSetsRow.domain false Rows.labelSetsRow.laid) (((OpenSpec.ofChange Rows.labelSetsSpec).at F).post enc Tryd.prog Tryd.f3 false true false false) := by
  obtain ⟨x, hx⟩ := sets_reads os enc
  refine returnsInHanded_of_row (C := Tryd.checked) (s := OpenSpec.ofChange Rows.labelSetsSpec) own started (by kernel_rfl) Tryd.func3
    (witness_row_at (enc := enc) (C := Tryd.checked) false (laidWorld os) #[.slice none 0 0, .int .u16 0, .int .u16 0] rfl (by kernel_rfl) (by kernel_rfl) (by kernel_rfl)
      (OpenSpec.preRow_of_cond 8 hx rfl (fun k hk => by cases hk) (by kernel_rfl) (laid_met os _))) ?_
  intro W base args ds gs before hval hW _ _ _ _ hsh _
  exact sets_contract H enc W base args ds gs before hval hW hsh

theorem sets_said : Rows.LabelSetsSaid :=
  OpenClaim.holds_of_cond 3 Tryd.f3 rfl rfl rfl rfl rfl rfl rfl ⟨rfl, rfl, rfl, rfl, rfl⟩ rfl rfl rfl rfl rfl (by kernel_rfl) Tryd.func3 (by kernel_rfl)
    (of_decide_eq_true (by kernel_rfl)) (by unfold Func.isWrapper; first | (rw [if_pos (by decide +kernel)]; kernel_rfl) | (rw [if_neg (by decide +kernel)]; exact ⟨rfl, rfl⟩))
    (fun os started H enc _ F => by rw [OpenClaim.pre_eq_preRow]; exact sets_lifted os started H enc F)

/-- LabelSets is true for every input; what its row lists is tied to the program's text. -/
theorem sets_holds : Rows.LabelSetsCardSaid :=
  Claim7.holds_tied_plain_at .later [] _ _ _ _ sets_said (fun _ h => by cases h) (by kernel_rfl) (fun _ h => by cases h) labelSets_row_tie rfl ⟨rfl, rfl⟩ (by kernel_rfl) rfl
    (plain_of (by kernel_rfl) Tryd.func3 no_looks (by kernel_rfl)) (by kernel_rfl)
end Go.Proofs.YtkihhhcjmlcmpaaDoor
