/-
  InternUndo: whatever the rows and the label: needed once more, and then once less, all is as it was.
-/
import Derived.Test.YtdecllllcoflbaaO
namespace Go.Proofs.Ytdecllllcoflbaa
open Go.ChangeShapes Go.WideShapes Go.ChangeAt Go.RowKit Intern

/-- What Retain answers, in short. -/
theorem ret_cases (l : List Rw) (a : Nat) : (∃ e, e ≠ 0 ∧ e < 6 ∧ retP l a = .bad e) ∨ (∃ m i, i < 16 ∧ m.length = 16 ∧ retP l a = ⟨m, i, 0⟩ ∧ l.length = 16 ∧ fndP m a = some i ∧ relP m (i : Int) = ⟨l, 0, 0⟩ ∧ Right l ∧ Right m) := by
  by_cases hR : Right l
  · cases hf : fnd l a with
    | none =>
      cases hg : freeAt l with
      | none => exact .inl ⟨5, by decide, by decide, retP_full hR hf hg⟩
      | some i =>
        obtain ⟨r, hi, h0, _⟩ := freeAt_some hg
        have hil : i < l.length := (List.getElem?_eq_some_iff.1 hi).1
        have hi16 : i < 16 := by rw [← hR.len]; exact hil
        have hM := hR.new hf hg
        have hmi : (l.set i ⟨a, 1⟩)[i]? = some ⟨a, 1⟩ := by rw [List.getElem?_set_self hil]
        refine .inr ⟨_, i, hi16, by rw [List.length_set, hR.len], retP_new hR hf hg, hR.len, ?_, ?_, hR, hM⟩
        · rw [fndP_yes hM]
          exact hM.fnd_at hmi (by show (1 : Int) ≠ 0; decide)
        · rw [relP_yes hM hmi (by show (1 : Int) ≠ 0; decide)]
          have hz : (⟨a, 1⟩ : Rw).less = r := by
            unfold Rw.less
            rw [if_pos rfl]
            have := fits_free (hR.fits i r hi) h0
            cases r
            simp only at this h0
            rw [this, h0]
            rfl
          obtain ⟨h1, h2⟩ := List.getElem?_eq_some_iff.1 hi
          rw [List.set_set, hz, ← h2, List.set_getElem_self]
    | some i =>
      obtain ⟨r, hi, h0, ha, _⟩ := fnd_some hf
      have hil : i < l.length := (List.getElem?_eq_some_iff.1 hi).1
      have hi16 : i < 16 := by rw [← hR.len]; exact hil
      by_cases hr : r.refs = 65535
      · exact .inl ⟨4, by decide, by decide, retP_long hR hf hi hr⟩
      · have hM := hR.more hf hi hr
        have hlo := fits_lo (hR.fits i r hi)
        rw [ha] at hM
        have hmi : (l.set i ⟨a, r.refs + 1⟩)[i]? = some ⟨a, r.refs + 1⟩ := by rw [List.getElem?_set_self hil]
        have hn0 : (⟨a, r.refs + 1⟩ : Rw).refs ≠ 0 := by show r.refs + 1 ≠ 0; omega
        refine .inr ⟨_, i, hi16, by rw [List.length_set, hR.len], retP_more hR hf hi hr, hR.len, ?_, ?_, hR, hM⟩
        · rw [fndP_yes hM]
          exact hM.fnd_at hmi hn0
        · rw [relP_yes hM hmi hn0]
          have hz : (⟨a, r.refs + 1⟩ : Rw).less = r := by
            unfold Rw.less
            rw [if_neg (by show ¬ r.refs + 1 = 1; omega)]
            cases r
            simp only at ha ⊢
            rw [ha]
            congr 1
            omega
          obtain ⟨h1, h2⟩ := List.getElem?_eq_some_iff.1 hi
          rw [List.set_set, hz, ← h2, List.set_getElem_self]
  · exact .inl ⟨1, by decide, by decide, retP_no hR a⟩

set_option maxHeartbeats 800000 in
theorem undo_walk (l : List Rw) (A : Option Addr) (n c a : Nat) (w : World) (hn : l.length = n) (hr : Rd w w.heap.size A (rowsV l)) (hc : n ≤ c) (hm : n ≤ 9223372036854775807) :
    Calls Try.prog 8 #[.slice A n c, .int .u16 (a : Int)] w fun e w' => e = .returned (.bool true) ∧ Below w.heap.size w w' := by
  obtain ⟨q, hq⟩ : ∃ q, q = min n 20 := ⟨_, rfl⟩
  have hkq : (l.take 20).length = q := by rw [List.length_take, hn, hq]; omega
  have hr6 : Rd w w.heap.size A (rowsV (l.take 20)) := by rw [rowsV_take]; exact hr.take 40
  have few := fun w => few_any A n c w hc hm
  rw [← hq] at few
  have Few := Lib.hid few
  generalize l.take 20 = k at hkq hr6
  have HL : Hid (∀ w1 : World, Below w.heap.size w w1 → Calls Try.prog 13 #[.slice A q c, .int .u16 (a : Int)] w1 fun e w' => Hands3 w1 (retP k a) e w') := fun w1 h1 =>
    ret_any k A q c a w1 hkq ((hr6.below h1).more h1.size)
  have HR6 := Lib.hid hr6
  have Hkq := Lib.hid hkq
  rcases ret_cases k a with ⟨er, h0, h6, hP⟩ | ⟨m, i, hi, hml, hP, hk16, hF, hB, _, _⟩
  · have hb : (((er : Nat) : Int) != 0) = true := by simp; exact h0
    have HP := Lib.hid hP
    clear hn hr hc hm hq hkq hr6 few hP h0 h6
    go_enter Try.func8, Try.ntmps8
    go_wp2_with (first
      | (go_at_call 9; refine (shown_any _).mono ?_; rintro e w3 ⟨he, hb3⟩; obtain rfl := he; have HB3 := Lib.hid hb3; clear hb3)
      | (go_at_call 10; refine (Few.out _).mono ?_; rintro e w' ⟨he, hw⟩; obtain rfl := he; subst hw)
      | (go_at_call 13; refine (HL.out _ HB3.out).mono ?_; rintro e w1 hh; obtain ⟨A1, c1, he, hb1⟩ := hh.nil HP.out; obtain rfl := he; have HB1 := Lib.hid (HB3.out.trans (hb1.mono HB3.out.size)); clear hb1 hh))
    go_ret
    exact ⟨rfl, HB1.out⟩
  · have hq16 : q = 16 := by rw [← hkq]; exact hk16
    subst hq16
    have HP := Lib.hid hP
    have HM := Lib.hid hml
    have HF : Hid (∀ (w1 : World) (A1 : Option Addr) c1, Rd w1 w1.heap.size A1 (rowsV m) → Calls Try.prog 11 #[.slice A1 16 c1, .int .u16 (a : Int)] w1 fun e w' => e = .returned (.tuple #[.int .i64 (i : Int), .bool true]) ∧ Below w1.heap.size w1 w') := fun w1 A1 c1 h => by
      have := find_any m A1 16 c1 a w1 hml h (by decide)
      rw [hF] at this
      exact this
    have HB : Hid (∀ (w1 : World) (A1 : Option Addr) c1, Rd w1 w1.heap.size A1 (rowsV m) → Calls Try.prog 15 #[.slice A1 16 c1, .int .i64 (i : Int)] w1 fun e w' => Hands2 w1 ⟨k, 0, 0⟩ e w') := fun w1 A1 c1 h => by
      rw [← hB]
      exact rel_any m A1 16 c1 i w1 hml h
    clear hn hr hc hm hq hr6 few hP hml hF hB
    go_enter Try.func8, Try.ntmps8
    go_wp2_with (first
      | (go_at_call 9; refine (shown_any _).mono ?_; rintro e w3 ⟨he, hb3⟩; obtain rfl := he; have HB3 := Lib.hid hb3; clear hb3)
      | (go_at_call 10; refine (Few.out _).mono ?_; rintro e w' ⟨he, hw⟩; obtain rfl := he; subst hw)
      | (go_at_call 13; refine (HL.out _ HB3.out).mono ?_; rintro e w1 hh; obtain ⟨g1, c1, he, _, hr1, hb1⟩ := hh.got HP.out HM.out; obtain rfl := he; have HB1 := Lib.hid (HB3.out.trans (hb1.mono HB3.out.size)); have HR1 := Lib.hid hr1; clear hb1 hh hr1)
      | (go_at_call 11; refine (HF.out _ _ _ HR1.out).mono ?_; rintro e w2 ⟨he, hb2⟩; obtain rfl := he; have HB2 := Lib.hid (HB1.out.trans (hb2.mono HB1.out.size)); have HR2 := Lib.hid ((HR1.out.below hb2).more hb2.size); clear hb2)
      | (go_at_call 15; refine (HB.out _ _ _ HR2.out).mono ?_; rintro e w4 hh; obtain ⟨g4, c4, he, _, hr4, hb4⟩ := hh.got rfl Hkq.out; obtain rfl := he; have HB4 := Lib.hid (HB2.out.trans (hb4.mono HB2.out.size)); have HR4 := Lib.hid hr4; have HR5 := Lib.hid (HR6.out.below HB4.out); clear hb4 hh hr4)
      | (go_at_call 19; refine (same_true k _ A 16 c4 c _ _ _ Hkq.out HR4.out HR5.out (by decide)).mono ?_; rintro e w5 ⟨he, q5, hw5⟩; obtain rfl := he; have HB5 := Lib.hid (by subst hw5; exact below_drewN HB4.out q5 : Below w.heap.size w w5); clear hw5))
    go_ret
    exact ⟨rfl, HB5.out⟩
theorem undo_int (l : List Rw) (A : Option Addr) (n c : Nat) (x : Int) (hx : 0 ≤ x ∧ x ≤ 65535) (w : World) (hn : l.length = n) (hr : Rd w w.heap.size A (rowsV l)) (hc : n ≤ c) (hm : n ≤ 9223372036854775807) :
    Calls Try.prog 8 #[.slice A n c, .int .u16 x] w fun e w' => e = .returned (.bool true) ∧ Below w.heap.size w w' := by
  obtain ⟨a, rfl⟩ : ∃ a : Nat, x = (a : Int) := ⟨x.toNat, by omega⟩
  exact undo_walk l A n c a w hn hr hc hm

theorem undo_contract (H : Type) (enc : TypeId × Value → H) (W : World) (base : Nat) (args : Array Value) (ds gs : List (DataW H)) (before : List MemPlace)
    (hval : ∀ (j : Nat) t v, Try.f8.params[j]? = some t → args[j]? = some v → Value.okWide Try.prog W .any base t v)
    (hW : DataW.Whole enc Try.prog Try.f8.params.toList Rows.internUndoSpec.vars false W args.toList ds gs before) :
    Calls Try.prog 8 args W fun e W' => ∃ v, e = .returned v ∧ Rows.internUndoSpec.post enc Try.prog Try.f8 false true false false W args v W' := by
  have hW' := hW
  have hlt : ∀ x ∈ before, x.block < W.heap.size := fun x hx => hW.lt x hx
  obtain ⟨p, q, hA0, hV, rfl, _, _⟩ := hW
  have hA : DataW.TrodAll enc Try.prog W 0 (fun _ => true) true Try.f8.params.toList args.toList ds p := hA0
  rw [Try.params8] at hA hval
  obtain ⟨v0, vs0, d0, ds0, p0, q0, hargs, rfl, rfl, h0, r0⟩ := trodAll_cons hA
  obtain ⟨v1, vs1, d1, ds1, p1, q1, rfl, rfl, rfl, h1, r1⟩ := trodAll_cons r0
  obtain ⟨rfl, rfl, rfl⟩ := trodAll_nil r1
  obtain rfl : args = #[v0, v1] := by cases args; simp_all
  obtain ⟨rfl, rfl⟩ := trodVars_none hV
  clear hA0
  obtain ⟨A0, n0, c0, l0, rfl, hn0, hc0, hm0, hr0, ho0⟩ := open_rowsL (hval 0 22 v0 rfl rfl) h0 (fun x hx => hlt x (by simp [hx]))
  unfold maxLen at hm0
  obtain ⟨a1, rfl, rfl, rfl, wa1⟩ := open_int Try.underlying24 (hval 1 24 v1 rfl rfl) h1
  have bd1 := bounds_u16 wa1
  refine (undo_int l0 A0 n0 c0 a1 bd1 W hn0 hr0 hc0 (by omega)).mono fun e W' ⟨he, hb⟩ => ?_
  subst he
  exact ⟨_, rfl, law_post laid (by kernel_rfl) Try.underlying4 (by rw [Try.params8]; decide +kernel) rfl hW' ⟨rfl, rfl, rfl⟩ hb⟩

set_option maxRecDepth 100000 in
theorem undo_lifted (os : Os) (started : os.Started) (H : Type) (enc : TypeId × Value → H) :
    ReturnsInHanded {} Try.checked os 8 .any (Rows.internUndoSpec.pre6 enc Try.prog Try.f8 Rows.internUndoRow.domain false) (Rows.internUndoSpec.post enc Try.prog Try.f8 false true false false) := by
  refine returnsInHanded_of_change (C := Try.checked) own started (by kernel_rfl) Try.func8
    (ChangeSpec.witness6 (enc := enc) (C := Try.checked) false ⟨#[], #[.slice none 0 0, .int .u16 0], []⟩ 8 (by kernel_rfl) (by kernel_rfl) (by kernel_rfl) (by kernel_rfl)) ?_
  intro W base args ds gs before hval hW _ _
  exact undo_contract H enc W base args ds gs before hval hW

/-- InternUndo is true for every input. -/
theorem undo_holds : Rows.InternUndoSaid :=
  OpenClaim.holds_of_wide 8 Try.f8 rfl rfl rfl rfl rfl rfl rfl ⟨rfl, rfl, rfl, rfl, rfl⟩ rfl rfl rfl rfl rfl (by kernel_rfl) Try.func8 (by kernel_rfl)
    (of_decide_eq_true (by kernel_rfl)) (by unfold Func.isWrapper; first | (rw [if_pos (by decide +kernel)]; kernel_rfl) | (rw [if_neg (by decide +kernel)]; exact ⟨rfl, rfl⟩))
    (fun os started H enc _ => undo_lifted os started H enc)
end Go.Proofs.Ytdecllllcoflbaa
