/-
  The document's own label of numbers; the order of labels, by package label and by the document; the test of two lists: what each call returns, and what it leaves.
-/
import Derived.Test.YtkihhhcjmlcmpaaDoorW1
namespace Go.Proofs.YtkihhhcjmlcmpaaDoor
open Go.RowKit

set_option maxHeartbeats 400000 in
theorem rof_any (l : List Int) (A : Option Addr) (n c : Nat) (B : Nat) (w : World) (hn : l.length = n) (hr : Rd w B A (intsV l)) (hm : n ≤ 9223372036854775807) :
    Calls Tryd.prog 11 #[.slice A n c] w fun e w' => e = .returned (.tuple #[.int .u16 (ofA l : Nat), .int .i64 (ofE l)]) ∧ w = w' := by
  have hr2 : l = [] ∨ ∃ b o, A = some ⟨b, o, none⟩ ∧ ∀ (j : Nat) (x : Int), l[j]? = some x → w.cell? ⟨b, o + j, none⟩ = some (.int .i64 x) := by
    rcases hr with h | ⟨b, o, h1, h2, h3⟩
    · exact .inl (by simpa [intsV] using h)
    · exact .inr ⟨b, o, h1, fun j x hx => h3 j _ (by simp [intsV, intV, hx])⟩
  clear hr
  rcases hr2 with rfl | ⟨b, o, rfl, hc⟩
  · obtain rfl : n = 0 := by simpa using hn.symm
    clear hn
    go_enter Tryd.func11, Tryd.ntmps11
    go_wp2
    go_loop [4, 5] (fun x i => x = .int .u16 0 ∧ i = .int .i64 0) (fun _ _ => 0)
    case atStart => exact ⟨rfl, rfl⟩
    case round =>
      obtain ⟨rfl, rfl⟩ := hrel
      go_wp2
      go_ret2
      exact ⟨rfl, rfl⟩
  · have Hn := Lib.hid hn
    have Hc := Lib.hid hc
    clear hn hc
    go_enter Tryd.func11, Tryd.ntmps11
    go_wp2
    go_loop [4, 5] (fun x i => ∃ k : Nat, k ≤ n ∧ i = .int .i64 (k : Int) ∧ ∃ a : Nat, x = .int .u16 (a : Int) ∧ Took l k a) (fun _ i => n - (intOf i).toNat)
    case atStart => exact ⟨0, Nat.zero_le _, rfl, 0, rfl, Took.start l⟩
    case round =>
      obtain ⟨k, hk, rfl, a, rfl, ht⟩ := hrel
      by_cases hlt : k < n
      · have hkl : k < l.length := by rw [Hn.out]; exact hlt
        have hcell := Hc.out k _ (List.getElem?_eq_getElem hkl)
        have halt := ht.lt
        by_cases hg0 : 0 ≤ l[k]
        · obtain ⟨m, hm'⟩ : ∃ m : Nat, l[k] = (m : Int) := Int.eq_ofNat_of_zero_le hg0
          have Hm := Lib.hid hm'
          rw [hm'] at hcell
          clear hg0 hm'
          by_cases h16 : m < 16
          · have Ht := Lib.hid (ht.step hkl Hm.out h16)
            clear ht
            cases htb : a.testBit m
            · have Hb := Lib.hid htb
              clear htb
              go_wp2_with (first | (go_at_call 29; refine (has_any _ _ _ halt h16).mono ?_; rintro e w' ⟨rfl, rfl⟩; rw [Hb.out]) | (go_at_call 30; refine (rwith_any _ _ _ halt h16 Hb.out).mono ?_; rintro e w' ⟨rfl, rfl⟩))
              go_round
              case rel => exact ⟨k + 1, by omega, by go_num, _, rfl, Ht.out⟩
              case measure => simp [intOf]; omega
            · have Hb := Lib.hid htb
              clear htb
              go_wp2_with (first | (go_at_call 29; refine (has_any _ _ _ halt h16).mono ?_; rintro e w' ⟨rfl, rfl⟩; rw [Hb.out]))
              go_round
              case rel => exact ⟨k + 1, by omega, by go_num, _, rfl, by have := Ht.out; rwa [wth_there Hb.out] at this⟩
              case measure => simp [intOf]; omega
          · go_wp2
            go_ret2
            have hb : goodB l[k] = false := by rw [Hm.out]; simp [goodB]; omega
            obtain ⟨e1, e2⟩ := ofA_bad l k hkl hb
            exact ⟨ret_two (by rw [e1]; rfl) e2.symm, rfl⟩
        · have hb : goodB l[k] = false := by simp [goodB]; omega
          have Hb := Lib.hid (ofA_bad l k hkl hb)
          clear hb
          generalize l[k] = x at hcell hg0
          go_wp2
          go_ret2
          obtain ⟨e1, e2⟩ := Hb.out
          exact ⟨ret_two (by rw [e1]; rfl) e2.symm, rfl⟩
      · go_wp2
        go_ret2
        obtain ⟨e1, e2⟩ := ht.done (by rw [Hn.out]; omega)
        exact ⟨ret_two (by rw [e1]) e2.symm, rfl⟩

theorem Listed.slice {w w' : World} {l : List Nat} {v : Value} (h : Listed w l v w') :
    ∃ A n c, v = .slice A n c ∧ l.length = n ∧ n ≤ c ∧ c ≤ 9223372036854775807 ∧ Rd w' w'.heap.size A (natsV l) ∧ Below w.heap.size w w' := by
  obtain ⟨h1, h2⟩ := h
  obtain ⟨_, A, c, hv, h3, h4, h5⟩ := own_rd h1
  exact ⟨A, _, c, hv, rfl, h3, by unfold maxLen at h4; omega, h5, h2⟩
theorem rd_nat {w : World} {B : Nat} {A : Option Addr} {l : List Nat} (hr : Rd w B A (natsV l)) : l = [] ∨ ∃ b o, A = some ⟨b, o, none⟩ ∧ b < B ∧ ∀ (j : Nat) (x : Nat), l[j]? = some x → w.cell? ⟨b, o + j, none⟩ = some (.int .i64 (x : Int)) := by
  rcases hr with h | ⟨b, o, h1, h2, h3⟩
  · exact .inl (by simpa [natsV] using h)
  · exact .inr ⟨b, o, h1, h2, fun j x hx => h3 j _ (by simp [natsV, hx])⟩

/-- What Compare answers of two lists of one length. -/
def cmpL : List Nat → List Nat → Int
  | x :: l, y :: m => if x = y then cmpL l m else cmpI x y
  | _, _ => 0
theorem cmpL_iff (l m : List Nat) : cmpL l m < 0 ↔ lexB l m = true := by
  induction l generalizing m with
  | nil => exact ⟨fun h => absurd h (by simp [cmpL]), fun h => by cases h⟩
  | cons x l ih =>
    cases m with
    | nil => exact ⟨fun h => absurd h (by simp [cmpL]), fun h => by cases h⟩
    | cons y m =>
      unfold cmpL lexB cmpI
      by_cases e : x = y
      · rw [if_pos e, if_pos e]; exact ih m
      · rw [if_neg e, if_neg e, if_neg e]
        by_cases h : x < y <;> simp [h]
theorem cmpL_lex (l m : List Nat) : decide (cmpL l m < 0) = lexB l m := by
  rw [Bool.eq_iff_iff, decide_eq_true_eq]; exact cmpL_iff l m
def Evens (l m : List Nat) (k : Nat) : Prop := cmpL l m = cmpL (l.drop k) (m.drop k)
theorem Evens.step {l m : List Nat} {k : Nat} (h : Evens l m k) (h1 : k < l.length) (h2 : k < m.length) (e : l[k] = m[k]) : Evens l m (k + 1) := by
  unfold Evens at *
  rw [h, List.drop_eq_getElem_cons h1, List.drop_eq_getElem_cons h2, cmpL, if_pos e]
theorem Evens.stop {l m : List Nat} {k : Nat} (h : Evens l m k) (h1 : k < l.length) (h2 : k < m.length) (e : ¬ l[k] = m[k]) : cmpL l m = cmpI l[k] m[k] := by
  unfold Evens at h
  rw [h, List.drop_eq_getElem_cons h1, List.drop_eq_getElem_cons h2, cmpL, if_neg e]
theorem Evens.done {l m : List Nat} {k : Nat} (h : Evens l m k) (h1 : l.length ≤ k) : cmpL l m = 0 := by
  unfold Evens at h
  rw [h, List.drop_eq_nil_of_le h1]
  rfl

set_option maxHeartbeats 400000 in
theorem compare_any (l m : List Nat) (A A2 : Option Addr) (n c c2 : Nat) (B : Nat) (w : World) (hn : l.length = n) (hn2 : m.length = n) (hr : Rd w B A (natsV l)) (hr2 : Rd w B A2 (natsV m)) (hm : n ≤ 9223372036854775807) :
    Calls Tryd.prog 31 #[.slice A n c, .slice A2 n c2] w fun e w' => e = .returned (.int .i64 (cmpL l m)) ∧ w = w' := by
  rcases rd_nat hr with h | ⟨b, o, rfl, _, hc⟩
  · have Hn := Lib.hid hn
    have He := Lib.hid h
    obtain rfl : n = 0 := by rw [h] at hn; simpa using hn.symm
    clear hn h hr hr2 hn2
    go_enter Tryd.func31, Tryd.ntmps31
    go_wp2
    go_loop [11] (fun i => i = .int .i64 0) (fun _ => 0)
    case atStart => exact rfl
    case round =>
      obtain rfl := hrel
      go_wp2
      go_ret
      exact ⟨ret_i64 (by rw [He.out]; rfl), rfl⟩
  rcases rd_nat hr2 with h | ⟨b2, o2, rfl, _, hc2⟩
  · have Hn := Lib.hid hn
    have Hn2 := Lib.hid hn2
    obtain rfl : n = 0 := by rw [h] at hn2; simpa using hn2.symm
    have He := Lib.hid (List.eq_nil_of_length_eq_zero hn)
    clear hn h hr hr2 hn2 hc
    go_enter Tryd.func31, Tryd.ntmps31
    go_wp2
    go_loop [11] (fun i => i = .int .i64 0) (fun _ => 0)
    case atStart => exact rfl
    case round =>
      obtain rfl := hrel
      go_wp2
      go_ret
      exact ⟨ret_i64 (by rw [He.out]; rfl), rfl⟩
  have Hn := Lib.hid hn
  have Hn2 := Lib.hid hn2
  have Hc := Lib.hid hc
  have Hc2 := Lib.hid hc2
  clear hn hn2 hc hc2 hr hr2
  go_enter Tryd.func31, Tryd.ntmps31
  go_wp2
  go_loop [11] (fun i => ∃ k : Nat, k ≤ n ∧ i = .int .i64 (k : Int) ∧ Evens l m k) (fun i => n - (intOf i).toNat)
  case atStart => exact ⟨0, Nat.zero_le _, rfl, rfl⟩
  case round =>
    obtain ⟨k, hk, rfl, hE⟩ := hrel
    by_cases hlt : k < n
    · have h1 : k < l.length := by rw [Hn.out]; exact hlt
      have h2 : k < m.length := by rw [Hn2.out]; exact hlt
      have hcell := Hc.out k _ (List.getElem?_eq_getElem h1)
      have hcell2 := Hc2.out k _ (List.getElem?_eq_getElem h2)
      by_cases e : l[k] = m[k]
      · have HE := Lib.hid (hE.step h1 h2 e)
        have H0 : Hid (cmpI l[k] m[k] = 0) := Lib.hid (by rw [cmpI, if_pos e])
        clear hE e
        generalize l[k] = x at hcell H0
        generalize m[k] = y at hcell2 H0
        go_wp2_with (go_at_call 37; refine (cmp_any _ _ _).mono ?_; rintro e w' ⟨rfl, rfl⟩; rw [H0.out])
        go_round
        case rel => exact ⟨k + 1, by omega, by go_num, HE.out⟩
        case measure => simp [intOf]; omega
      · have HE := Lib.hid (hE.stop h1 h2 e)
        have H0 : Hid (cmpI l[k] m[k] = -1) ∨ Hid (cmpI l[k] m[k] = 1) := by
          by_cases h : l[k] < m[k]
          · exact .inl (Lib.hid (by rw [cmpI, if_neg e, if_pos h]))
          · exact .inr (Lib.hid (by rw [cmpI, if_neg e, if_neg h]))
        clear hE e
        generalize l[k] = x at hcell H0 HE
        generalize m[k] = y at hcell2 H0 HE
        rcases H0 with H0 | H0
        all_goals
          go_wp2_with (go_at_call 37; refine (cmp_any _ _ _).mono ?_; rintro e w' ⟨rfl, rfl⟩; rw [H0.out])
          go_ret
          exact ⟨ret_i64 (by rw [HE.out, H0.out]), rfl⟩
    · go_wp2
      go_ret
      exact ⟨ret_i64 (by rw [hE.done (by rw [Hn.out]; omega)]), rfl⟩

set_option maxHeartbeats 400000 in
theorem less_any (a b : Nat) (w : World) (ha : a < 65536) (hb : b < 65536) :
    Calls Tryd.prog 22 #[.int .u16 (a : Int), .int .u16 (b : Int)] w fun e w' => e = .returned (.bool (lessB a b)) ∧ Below w.heap.size w w' := by
  go_enter Tryd.func22, Tryd.ntmps22
  go_wp2_with fail
  refine (list_any a _ ha).mono ?_
  rintro e w1 ⟨v1, rfl, hL1⟩
  obtain ⟨A1, n1, c1, rfl, hn1, hc1, hm1, hr1, hb1⟩ := hL1.slice
  have Hn1 := Lib.hid hn1
  clear hL1 hn1
  go_wp2_with fail
  refine (list_any b _ hb).mono ?_
  rintro e w2 ⟨v2, rfl, hL2⟩
  obtain ⟨A2, n2, c2, rfl, hn2, hc2, hm2, hr2, hb2⟩ := hL2.slice
  have Hn2 := Lib.hid hn2
  have hr1' := (hr1.below hb2).more hb2.size
  have hB := hb1.trans (hb2.mono hb1.size)
  clear hL2 hn2 hr1
  by_cases e : n1 = n2
  · subst e
    go_wp2_with (go_at_call 31; refine (compare_any (cats a) (cats b) _ _ _ _ _ _ _ Hn1.out Hn2.out hr1' hr2 (by omega)).mono ?_; rintro e w' ⟨rfl, rfl⟩)
    go_ret
    exact ⟨ret_bool (by rw [lessB, lessL, if_pos (by rw [Hn1.out, Hn2.out])]; exact cmpL_lex _ _), hB⟩
  · by_cases h : n1 < n2
    all_goals
      go_wp2
      go_ret
      refine ⟨ret_bool ?_, hB⟩
      rw [lessB, lessL, if_neg (by rw [Hn1.out, Hn2.out]; exact e), Hn1.out, Hn2.out]
      simp
      try omega

theorem below_dr {B : Nat} {a w : World} (h : Below B a w) (n : Nat) : Below B a (w.drewN n) := h.trans ⟨rfl, rfl, rfl, Nat.le_refl _, fun _ _ => rfl⟩
/-- Two lists are the same up to a place. -/
def Same (l m : List Nat) (k : Nat) : Prop := lexB l m = lexB (l.drop k) (m.drop k)
theorem Same.step {l m : List Nat} {k : Nat} (h : Same l m k) (h1 : k < l.length) (h2 : k < m.length) (e : l[k] = m[k]) : Same l m (k + 1) := by
  unfold Same at *
  rw [h, List.drop_eq_getElem_cons h1, List.drop_eq_getElem_cons h2, lexB, if_pos e]
theorem Same.stop {l m : List Nat} {k : Nat} (h : Same l m k) (h1 : k < l.length) (h2 : k < m.length) (e : ¬ l[k] = m[k]) : lexB l m = decide (l[k] < m[k]) := by
  unfold Same at h
  rw [h, List.drop_eq_getElem_cons h1, List.drop_eq_getElem_cons h2, lexB, if_neg e]
theorem Same.done {l m : List Nat} {k : Nat} (h : Same l m k) (h1 : l.length ≤ k) : lexB l m = false := by
  unfold Same at h
  rw [h, List.drop_eq_nil_of_le h1]
  rfl

set_option maxHeartbeats 800000 in
theorem rless_any (a b : Nat) (w : World) (ha : a < 65536) (hb : b < 65536) :
    Calls Tryd.prog 23 #[.int .u16 (a : Int), .int .u16 (b : Int)] w fun e w' => e = .returned (.bool (lessB a b)) ∧ Below w.heap.size w w' := by
  go_enter Tryd.func23, Tryd.ntmps23
  go_wp2_with fail
  refine (rlist_any a _ ha).mono ?_
  rintro e w1 ⟨v1, rfl, hL1⟩
  obtain ⟨A1, n1, c1, rfl, hn1, hc1, hm1, hr1, hb1⟩ := hL1.slice
  have Hn1 := Lib.hid hn1
  clear hL1 hn1
  go_wp2_with fail
  refine (rlist_any b _ hb).mono ?_
  rintro e w2 ⟨v2, rfl, hL2⟩
  obtain ⟨A2, n2, c2, rfl, hn2, hc2, hm2, hr2, hb2⟩ := hL2.slice
  have Hn2 := Lib.hid hn2
  have hr1' := (hr1.below hb2).more hb2.size
  have hB := hb1.trans (hb2.mono hb1.size)
  clear hL2 hn2 hr1 hb1 hb2
  by_cases e : n1 = n2
  · subst e
    have HX : Hid (lessB a b = lexB (cats a) (cats b)) := Lib.hid (by rw [lessB, lessL, if_pos (by rw [Hn1.out, Hn2.out])])
    generalize cats a = l at Hn1 hr1' HX
    generalize cats b = m at Hn2 hr2 HX
    rcases rd_nat hr1' with h | ⟨b1, o1, rfl, _, hcc1⟩
    · have He := Lib.hid h
      have h0 := Hn1.out
      obtain rfl : n1 = 0 := by rw [h] at h0; simpa using h0.symm
      clear h h0 hr1' hr2
      go_wp2
      go_loop [7] (fun i => i = .int .i64 0) (fun _ => 0)
      case atStart => exact rfl
      case round =>
        obtain rfl := hrel
        go_wp2
        go_ret
        exact ⟨ret_bool (by rw [HX.out, He.out]; rfl), hB⟩
    rcases rd_nat hr2 with h | ⟨b2, o2, rfl, _, hcc2⟩
    · have h0 := Hn2.out
      obtain rfl : n1 = 0 := by rw [h] at h0; simpa using h0.symm
      have He := Lib.hid (List.eq_nil_of_length_eq_zero Hn1.out)
      clear h h0 hr1' hr2 hcc1
      go_wp2
      go_loop [7] (fun i => i = .int .i64 0) (fun _ => 0)
      case atStart => exact rfl
      case round =>
        obtain rfl := hrel
        go_wp2
        go_ret
        exact ⟨ret_bool (by rw [HX.out, He.out]; rfl), hB⟩
    have Hc1 := Lib.hid hcc1
    have Hc2 := Lib.hid hcc2
    clear hcc1 hcc2 hr1' hr2
    go_wp2
    go_loopw [7] (fun i wr => ∃ k : Nat, k ≤ n1 ∧ i = .int .i64 (k : Int) ∧ Same l m k ∧ ∃ q, wr = w2.drewN q) (fun i _ => n1 - (intOf i).toNat)
    case atStart => exact ⟨0, Nat.zero_le _, rfl, rfl, 0, rfl⟩
    case round =>
      obtain ⟨k, hk, rfl, hE, q, rfl⟩ := hrel
      by_cases hlt : k < n1
      · have h1 : k < l.length := by rw [Hn1.out]; exact hlt
        have h2 : k < m.length := by rw [Hn2.out]; exact hlt
        have hcell := Hc1.out k _ (List.getElem?_eq_getElem h1)
        have hcell2 := Hc2.out k _ (List.getElem?_eq_getElem h2)
        by_cases e : l[k] = m[k]
        · have HE := Lib.hid (hE.step h1 h2 e)
          rw [e] at hcell
          clear hE e
          generalize m[k] = x at hcell hcell2
          go_wp2
          go_quiet (fail)
          go_wp2
          go_roundw
          case rel => exact ⟨k + 1, by omega, by go_num, HE.out, q + nq, rfl⟩
          case measure => simp [intOf]; omega
        · have HE := Lib.hid (hE.stop h1 h2 e)
          clear hE
          generalize l[k] = x at hcell HE e
          generalize m[k] = y at hcell2 HE e
          by_cases hxy : x < y
          all_goals
            go_wp2
            go_quiet (fail)
            go_wp2
            go_quiet (fail)
            go_wp2
            go_ret
            refine ⟨ret_bool ?_, below_dr (below_dr (below_dr hB _) _) _⟩
            rw [HX.out, HE.out]
            simp [hxy]
      · go_wp2
        go_ret
        exact ⟨ret_bool (by rw [HX.out, hE.done (by rw [Hn1.out]; omega)]), below_dr hB _⟩
  · by_cases h : n1 < n2
    all_goals
      clear hr1' hr2
      go_wp2
      go_ret
      refine ⟨ret_bool ?_, hB⟩
      rw [lessB, lessL, if_neg (by rw [Hn1.out, Hn2.out]; exact e), Hn1.out, Hn2.out]
      simp
      try omega

set_option maxHeartbeats 400000 in
theorem same_true (l : List Nat) (A A2 : Option Addr) (n c c2 : Nat) (B : Nat) (w : World) (hn : l.length = n) (hr : Rd w B A (natsV l)) (hr2 : Rd w B A2 (natsV l)) (hm : n ≤ 9223372036854775807) (hc : n ≤ c) (hc2 : n ≤ c2) :
    Calls Tryd.prog 13 #[.slice A n c, .slice A2 n c2] w fun e w' => e = .returned (.bool true) ∧ ∃ q, w' = w.drewN q := by
  have Hn := Lib.hid hn
  have h0 : l = [] → n = 0 := fun h => by rw [← hn, h]; rfl
  clear hn
  rcases rd_nat hr with h | ⟨b1, o1, rfl, _, hcc1⟩
  · obtain rfl := h0 h
    clear h h0 hr hr2
    go_enter Tryd.func13, Tryd.ntmps13
    go_wp2
    go_loop [13] (fun i => i = .int .i64 0) (fun _ => 0)
    case atStart => exact rfl
    case round =>
      obtain rfl := hrel
      go_wp2
      go_ret
      exact ⟨rfl, 0, rfl⟩
  rcases rd_nat hr2 with h | ⟨b2, o2, rfl, _, hcc2⟩
  · obtain rfl := h0 h
    clear h h0 hr hr2 hcc1
    go_enter Tryd.func13, Tryd.ntmps13
    go_wp2
    go_loop [13] (fun i => i = .int .i64 0) (fun _ => 0)
    case atStart => exact rfl
    case round =>
      obtain rfl := hrel
      go_wp2
      go_ret
      exact ⟨rfl, 0, rfl⟩
  have Hc1 := Lib.hid hcc1
  have Hc2 := Lib.hid hcc2
  clear hcc1 hcc2 hr hr2 h0
  go_enter Tryd.func13, Tryd.ntmps13
  go_wp2
  go_loopw [13] (fun i wr => ∃ k : Nat, k ≤ n ∧ i = .int .i64 (k : Int) ∧ ∃ q, wr = w.drewN q) (fun i _ => n - (intOf i).toNat)
  case atStart => exact ⟨0, Nat.zero_le _, rfl, 0, rfl⟩
  case round =>
    obtain ⟨k, hk, rfl, q, rfl⟩ := hrel
    by_cases hlt : k < n
    · have h1 : k < l.length := by rw [Hn.out]; exact hlt
      have hcell := Hc1.out k _ (List.getElem?_eq_getElem h1)
      have hcell2 := Hc2.out k _ (List.getElem?_eq_getElem h1)
      generalize l[k] = x at hcell hcell2
      go_wp2
      go_quiet (fail)
      go_wp2
      go_roundw
      case rel => exact ⟨k + 1, by omega, by go_num, q + nq, rfl⟩
      case measure => simp [intOf]; omega
    · go_wp2
      go_ret
      exact ⟨rfl, q, rfl⟩
end Go.Proofs.YtkihhhcjmlcmpaaDoor
