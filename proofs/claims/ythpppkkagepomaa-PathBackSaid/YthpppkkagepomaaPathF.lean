/-
  What the statements share: the first bytes of a text, the first of many texts, the document's examples.
-/
import Derived.Test.YthpppkkagepomaaPathX5
namespace Go.Proofs.Ythpppkkagepomaa.Path
open Go.RowKit Go.Proofs.Ythpppkkagepomaa.Entry

/-- The first 1,000 bytes. -/
def fewB (s : ByteArray) : ByteArray := s.extract 0 (min s.size 1000)
theorem few_size (s : ByteArray) : (fewB s).size ≤ 1000 := by
  unfold fewB
  rw [ByteArray.size_extract]
  omega
theorem few_any (s : ByteArray) (w : World) : Calls Try.prog 10 #[.string s] w fun e w' => e = .returned (.string (fewB s)) ∧ w = w' := by
  unfold fewB
  by_cases h : s.size ≤ 1000
  · obtain ⟨q, hq⟩ : ∃ q, min s.size 1000 = q := ⟨_, rfl⟩
    have e2 : min (s.size : Int) 1000 = (q : Int) := by omega
    have h0 : (0 : Int) ≤ (q : Int) := by omega
    have h1 : (q : Int) ≤ (s.size : Int) := by omega
    rw [hq]
    clear hq h
    go_enter Try.func10, Try.ntmps10
    go_wp2
    go_ret
    exact ⟨rfl, rfl⟩
  · have e : min s.size 1000 = 1000 := by omega
    have e2 : min (s.size : Int) 1000 = 1000 := by omega
    have h1 : (1000 : Int) ≤ (s.size : Int) := by omega
    rw [e]
    go_enter Try.func10, Try.ntmps10
    go_wp2
    go_ret
    exact ⟨rfl, rfl⟩

/-- How many of the texts: up to 30, and none of more than 100 bytes. -/
def someN (l : List (List UInt8)) : Nat := min 30 (l.findIdx fun x => decide (100 < x.length))
theorem some_le (l : List (List UInt8)) : someN l ≤ l.length := Nat.le_trans (Nat.min_le_right _ _) List.findIdx_le_length
theorem some_30 (l : List (List UInt8)) : someN l ≤ 30 := Nat.min_le_left _ _
theorem some_len (l : List (List UInt8)) : (l.take (someN l)).length = someN l := by rw [List.length_take]; have := some_le l; omega
theorem some_100 {l : List (List UInt8)} {x : List UInt8} (h : x ∈ l.take (someN l)) : x.length ≤ 100 := by
  obtain ⟨i, hi⟩ := List.mem_iff_getElem?.1 h
  have h1 := (List.getElem?_eq_some_iff.1 hi).1
  rw [some_len] at h1
  rw [List.getElem?_take_of_lt h1] at hi
  obtain ⟨h2, h3⟩ := List.getElem?_eq_some_iff.1 hi
  have h4 : i < l.findIdx fun x => decide (100 < x.length) := by unfold someN at h1; omega
  have h5 := List.not_of_lt_findIdx h4
  rw [h3] at h5
  have h5 : ¬ 100 < x.length := by simpa using h5
  omega
theorem some_stop30 {l : List (List UInt8)} {j : Nat} (h : j ≤ someN l) (hj : 30 ≤ j) : someN l = j := by
  have := some_30 l
  omega
theorem some_stop {l : List (List UInt8)} {j : Nat} {x : List UInt8} (h : j ≤ someN l) (hx : l[j]? = some x) (hl : 100 < x.length) : someN l = j := by
  obtain ⟨h2, h3⟩ := List.getElem?_eq_some_iff.1 hx
  have h4 : l.findIdx (fun x => decide (100 < x.length)) ≤ j := by
    rcases Nat.lt_or_ge j (l.findIdx fun x : List UInt8 => decide (100 < x.length)) with hlt | hge
    · have := List.not_of_lt_findIdx hlt
      rw [h3] at this
      have : ¬ 100 < x.length := by simpa using this
      omega
    · exact hge
  unfold someN at h ⊢
  omega
theorem some_step {l : List (List UInt8)} {j : Nat} {x : List UInt8} (h : j ≤ someN l) (hx : l[j]? = some x) (hj : j < 30) (hl : ¬ 100 < x.length) : j + 1 ≤ someN l := by
  obtain ⟨h2, h3⟩ := List.getElem?_eq_some_iff.1 hx
  have h4 : j < l.findIdx (fun x => decide (100 < x.length)) := by
    rcases Nat.lt_or_ge j (l.findIdx fun x : List UInt8 => decide (100 < x.length)) with hlt | hge
    · exact hlt
    · have e : l.findIdx (fun x => decide (100 < x.length)) = j := by unfold someN at h; omega
      have := List.findIdx_getElem (xs := l) (p := fun x => decide (100 < x.length)) (w := by omega)
      simp only [e, h3] at this
      simp at this
      omega
  unfold someN
  omega
theorem some_end {l : List (List UInt8)} {j : Nat} (h : j ≤ someN l) (hj : j = l.length) : someN l = j := by
  have := some_le l
  omega
theorem some_rd {w : World} {B : Nat} {A : Option Addr} {l : List (List UInt8)} (h : Rd w B A (strsV l)) : Rd w B A (strsV (l.take (someN l))) := by rw [strsV_take]; exact h.take _
set_option maxHeartbeats 800000 in
theorem some_any (l : List (List UInt8)) (A : Option Addr) (n c : Nat) (w : World) (hn : l.length = n) (hc : n ≤ c) (hm : c ≤ maxLen) (hr : Rd w w.heap.size A (strsV l)) :
    Calls Try.prog 17 #[.slice A n c] w fun e w' => e = .returned (.slice A (someN l) c) ∧ w = w' := by
  have hm2 : c ≤ 9223372036854775807 := hm
  have Hr := Lib.hid hr
  have Hn := Lib.hid hn
  clear hn hr
  go_enter Try.func17, Try.ntmps17
  go_wp2
  go_loop [3, 6] (fun _ i => ∃ j : Nat, j ≤ n ∧ i = .int .i64 (j : Int) ∧ Hid (j ≤ someN l)) (fun _ i => n - (intOf i).toNat)
  case atStart => exact ⟨0, Nat.zero_le _, rfl, Lib.hid (Nat.zero_le _)⟩
  case round =>
    obtain ⟨j, hj, rfl, HJ⟩ := hrel
    have hjc : j ≤ c := Nat.le_trans hj hc
    by_cases hlt : j < n
    · by_cases h30 : 30 ≤ j
      · have HE := Lib.hid (some_stop30 HJ.out h30)
        have h30i : (30 : Int) ≤ (j : Int) := by omega
        have hlti : (j : Int) < (n : Int) := by omega
        clear h30
        go_wp2
        go_ret
        exact ⟨by rw [HE.out] <;> rfl, rfl⟩
      · have h30i : ¬ (30 : Int) ≤ (j : Int) := by omega
        have hlti : (j : Int) < (n : Int) := by omega
        obtain ⟨x, hx⟩ : ∃ x, l[j]? = some x := ⟨_, List.getElem?_eq_getElem (by rw [Hn.out]; exact hlt)⟩
        obtain ⟨B, o, rfl, hB⟩ := rd_strs Hr.out (by rw [Hn.out]; omega)
        have hcx := rd_str Hr.out hx
        unfold strV at hcx
        have HX := Lib.hid hx
        obtain ⟨X, hX⟩ : ∃ X : ByteArray, (⟨x.toArray⟩ : ByteArray) = X := ⟨_, rfl⟩
        rw [hX] at hcx
        have hxl : X.size = x.length := by rw [← hX]; simp [ByteArray.size]
        clear hx hX
        by_cases h100 : 100 < x.length
        · have HE := Lib.hid (some_stop HJ.out HX.out h100)
          have h100i : (100 : Int) < (X.size : Int) := by omega
          clear hxl h100
          go_wp2
          go_ret
          exact ⟨by rw [HE.out] <;> rfl, rfl⟩
        · have HE := Lib.hid (some_step HJ.out HX.out (by omega) h100)
          have h100i : ¬ (100 : Int) < (X.size : Int) := by omega
          clear hxl h100
          go_wp2
          go_round
          case rel => exact ⟨j + 1, by omega, by go_num, HE⟩
          case measure => simp [intOf]; omega
    · obtain rfl : j = n := by omega
      have HE := Lib.hid (some_end HJ.out (by rw [Hn.out]))
      go_wp2
      go_ret
      exact ⟨by rw [HE.out] <;> rfl, rfl⟩

/-! The examples. -/
theorem par_abc : parP [47, 97, 47, 98, 99] = some [[97], [98, 99]] := parP_iff.2 ⟨⟨by decide, by unfold Names; decide⟩, by decide⟩
theorem par_slash : parP [47, 97, 47] = none := parP_bad (by simp) (fun h => absurd (h.names [] (by decide)) (by decide))
theorem split_abc : splitP [47, 97, 47, 98, 99] = ([47, 97], [98, 99], 0) := split_some (l := [[97]]) (n := [98, 99]) par_abc
theorem abc_rd (w : World) (e : TypeId) : Rd (w.alloc (.cells #[.string ⟨#[97]⟩, .string ⟨#[98, 99]⟩] e)) (w.heap.size + 1) (some ⟨w.heap.size, 0, none⟩) (strsV [[97], [98, 99]]) := by
  have h := (Bk.new w e (strsV [[97], [98, 99]])).rd 2 0
  simpa [strsV, strV] using h
set_option maxHeartbeats 800000 in
theorem shown_any (w : World) : Calls Try.prog 14 #[] w fun e w' => e = .returned (.bool true) ∧ Below w.heap.size w w' := by
  have H1 := Lib.hid (fun u => parse_any ⟨#[47, 97, 47, 98, 99]⟩ u (by decide))
  have H2 := Lib.hid (fun u => parse_any ⟨#[47, 97, 47]⟩ u (by decide))
  have H3 := Lib.hid (fun u => split_any ⟨#[47, 97, 47, 98, 99]⟩ u (by decide))
  have e1 : parseP (⟨#[47, 97, 47, 98, 99]⟩ : ByteArray).data.toList = ([[97], [98, 99]], 0) := parse_some par_abc
  have e2 : parseP (⟨#[47, 97, 47]⟩ : ByteArray).data.toList = ([], 130) := parse_none par_slash
  have e3 : splitP (⟨#[47, 97, 47, 98, 99]⟩ : ByteArray).data.toList = ([47, 97], [98, 99], 0) := split_abc
  rw [e1] at H1
  rw [e2] at H2
  rw [e3] at H3
  clear e1 e2 e3
  go_enter Try.func14, Try.ntmps14
  go_wp2_with (first
    | (go_at_call 9; (with_reducible refine (H1.out _).mono ?_); rintro e w1 h1; obtain ⟨A1, c1, he, -, hr1, hb1⟩ := hands_pair h1; obtain rfl := he; have HR1 := Lib.hid hr1; have HB1 := Lib.hid hb1; clear h1 hr1 hb1)
    | (go_at_call 12; (with_reducible refine (H3.out _).mono ?_); rintro e w2 ⟨he, hb2⟩; obtain rfl := he; have HR2 := Lib.hid ((HR1.out.below hb2).more hb2.size); have HB2 := Lib.hid (HB1.out.trans (hb2.mono HB1.out.size)); clear hb2)
    | (go_at_call 9; (with_reducible refine (H2.out _).mono ?_); rintro e w3 h1; obtain ⟨A3, c3, he, -, -, hb3⟩ := hands_pair h1; obtain rfl := he; have HR3 := Lib.hid ((HR2.out.below hb3).more hb3.size); have HB3 := Lib.hid (HB2.out.trans (hb3.mono HB2.out.size)); clear h1 hb3)
    | (go_at_call 15; (with_reducible refine (same_any [[97], [98, 99]] A1 _ 2 c1 2 _ rfl ((HR3.out.below (alloc_below _ _)).more (alloc_below _ _).size) ((abc_rd _ 9).more (by simp)) (by omega)).mono ?_); rintro e w4 ⟨he, hb4⟩; obtain rfl := he; have HB4 := Lib.hid (HB3.out.trans (((alloc_below _ _).trans (hb4.mono (alloc_below _ _).size)).mono HB3.out.size)); clear hb4))
  go_ret
  exact ⟨rfl, HB4.out⟩
end Go.Proofs.Ythpppkkagepomaa.Path
