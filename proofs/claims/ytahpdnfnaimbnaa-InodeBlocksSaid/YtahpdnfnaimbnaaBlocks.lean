/-
  InodeBlocks: whatever the pointers and the bytes, a block of pointers is taken as it was laid, and laid as it was taken.
-/
import Derived.Test.YtahpdnfnaimbnaaTakes
namespace Go.Proofs.Ytahpdnfnaimbnaa
open Go.ChangeShapes Go.WideShapes Go.ChangeAt Go.RowKit Inode

set_option maxHeartbeats 1600000 in
set_option maxRecDepth 100000 in
theorem blocks11 (k : List Int) (A : Option Addr) (n c q : Nat) (b : List UInt8) (A2 : Option Addr) (n2 c2 : Nat) (w : World) (hq : min n 100 = q) (hkq : k.length = q) (hc : n ≤ c) (hm : c ≤ 9223372036854775807) (hrk : Rd w w.heap.size A (intsV k))
    (hn2 : b.length = n2) (hc2 : n2 ≤ c2) (hr2 : Rd w w.heap.size A2 (bytesV b)) (h200 : n2 ≤ 200) (h1 : k.length = 32 ∧ k.all ptrB = true) (h2 : b.length = 64 ∧ (ptrs b).all ptrB = true) :
    Calls Try.prog 7 #[.slice A n c, .slice A2 n2 c2] w fun e w' => e = .returned (.bool true) ∧ Below w.heap.size w w' := by
  obtain ⟨hk32, hkp⟩ := h1
  have hlay : (layl 2 (k.map Int.toNat)).length = 64 := by rw [length_layl, List.length_map, hk32]
  have hpo := poi_blo hk32 hkp
  have hbl := bloP_yes hk32 hkp
  obtain ⟨bs, hbs⟩ : ∃ bs, bs = layl 2 (k.map Int.toNat) := ⟨_, rfl⟩
  rw [← hbs] at hlay hpo hbl
  have H22 : Hid (∀ W : World, Below w.heap.size w W → Calls Try.prog 22 #[.slice A q c] W fun e w' => HandsB W bs 0 e w') := fun W h => by
    have := blo_any k A q c W hkq ((hrk.below h).more h.size)
    rwa [hbl] at this
  have H17 : Hid (∀ (W : World) (A1 : Option Addr) (d : Nat), Rd W W.heap.size A1 (bytesV bs) → 64 ≤ d → Calls Try.prog 17 #[.slice A1 64 d] W fun e w' => HandsI W k 0 e w') := fun W A1 d h hd => by
    have := poi_any bs A1 64 d W hlay h hd
    rwa [hpo] at this
  have HL := Lib.hid hlay
  obtain ⟨hb64, hbp⟩ := h2
  have hpb := poiP_yes hb64 hbp
  have hbb := blo_poi hb64 hbp
  have hzl : (ptrs b).length = 32 := by rw [length_ptrs, hb64]
  generalize ptrs b = zs at *
  have HZ := Lib.hid hzl
  have H17b : Hid (∀ W : World, Below w.heap.size w W → Calls Try.prog 17 #[.slice A2 n2 c2] W fun e w' => HandsI W zs 0 e w') := fun W h => by
    have := poi_any b A2 n2 c2 W hn2 ((hr2.below h).more h.size) hc2
    rwa [hpb] at this
  have H22b : Hid (∀ (W : World) (A1 : Option Addr) (d : Nat), Rd W W.heap.size A1 (intsV zs) → Calls Try.prog 22 #[.slice A1 32 d] W fun e w' => HandsB W b 0 e w') := fun W A1 d h => by
    have := blo_any zs A1 32 d W hzl h
    rwa [hbb] at this
  clear hpb hbb hzl hbp
  have HQ := Lib.hid hq
  have HKQ := Lib.hid hkq
  have HRK := Lib.hid hrk
  have HN2 := Lib.hid hn2
  have HR2 := Lib.hid hr2
  have hqc : q ≤ c := by omega
  have hqm : q ≤ 9223372036854775807 := by omega
  have hmin : min (n : Int) 100 = (q : Int) := by omega
  clear hq hkq hrk hn2 hr2 hk32 hkp hlay hpo hbl hbs hb64
  go_enter Try.func7, Try.ntmps7
  go_wp2_with (go_at_call 12; (with_reducible refine (shown_any _).mono ?_); rintro e w1 ⟨he, hb1⟩; obtain rfl := he; have HB1 := Lib.hid hb1; clear hb1)
  case' inl h =>
    have h100 : (100 : Nat) = q := by have := HQ.out; omega
    rw [h100]
  case' inr h =>
    have hnq : n = q := by have := HQ.out; omega
    rw [hnq]
  all_goals
    go_wp2_with (first
      | (go_at_call 22; (with_reducible refine (H22.out _ HB1.out).mono ?_); rintro e w2 hh; obtain ⟨A3, d3, he, hd3, hr3, hb2⟩ := hh.got (n := 64) HL.out; obtain rfl := he; have HB2 := Lib.hid (HB1.out.trans (hb2.mono HB1.out.size)); have HR3 := Lib.hid hr3; clear hh hb2 hr3)
      | (go_at_call 17; (with_reducible refine (H17.out _ A3 d3 HR3.out hd3).mono ?_); rintro e w3 hh; obtain ⟨A4, d4, he, -, -, hr4, hb3⟩ := hh.got (n := q) HKQ.out; obtain rfl := he; have HB3 := Lib.hid (HB2.out.trans (hb3.mono HB2.out.size)); have HR4 := Lib.hid hr4; clear hh hb3 hr4)
      | (go_at_call 19; (with_reducible refine (same_true k A A4 q c d4 _ _ _ HKQ.out (HRK.out.below HB3.out) HR4.out hqm).mono ?_); rintro e w4 ⟨he, q4, hw4⟩; obtain rfl := he; obtain ⟨W4, hW4⟩ : ∃ W4, W4 = w3.drewN q4 := ⟨_, rfl⟩; rw [← hW4] at hw4; subst hw4; have HB4 : Hid (Below w.heap.size w w4) := Lib.hid (by rw [hW4]; exact below_drewN HB3.out q4); clear hW4)
      | (go_at_call 17; (with_reducible refine (H17b.out _ HB4.out).mono ?_); rintro e w5 hh; obtain ⟨A5, d5, he, -, -, hr5, hb5⟩ := hh.got (n := 32) HZ.out; obtain rfl := he; have HB5 := Lib.hid (HB4.out.trans (hb5.mono HB4.out.size)); have HR5 := Lib.hid hr5; clear hh hb5 hr5)
      | (go_at_call 22; (with_reducible refine (H22b.out _ A5 d5 HR5.out).mono ?_); rintro e w6 hh; obtain ⟨A6, d6, he, -, hr6, hb6⟩ := hh.got (n := n2) HN2.out; obtain rfl := he; have HB6 := Lib.hid (HB5.out.trans (hb6.mono HB5.out.size)); have s1 := str_of (c := d6) HN2.out hr6; have s2 := str_of (c := c2) HN2.out (HR2.out.below HB6.out); clear hh hb6 hr6))
    go_ret
    exact ⟨rfl, HB6.out⟩

set_option maxHeartbeats 1600000 in
set_option maxRecDepth 100000 in
theorem blocks10 (k : List Int) (A : Option Addr) (n c q : Nat) (b : List UInt8) (A2 : Option Addr) (n2 c2 : Nat) (w : World) (hq : min n 100 = q) (hkq : k.length = q) (hc : n ≤ c) (hm : c ≤ 9223372036854775807) (hrk : Rd w w.heap.size A (intsV k))
    (hn2 : b.length = n2) (hc2 : n2 ≤ c2) (hr2 : Rd w w.heap.size A2 (bytesV b)) (h200 : n2 ≤ 200) (h1 : k.length = 32 ∧ k.all ptrB = true) (h2 : ¬ (b.length = 64 ∧ (ptrs b).all ptrB = true)) :
    Calls Try.prog 7 #[.slice A n c, .slice A2 n2 c2] w fun e w' => e = .returned (.bool true) ∧ Below w.heap.size w w' := by
  obtain ⟨hk32, hkp⟩ := h1
  have hlay : (layl 2 (k.map Int.toNat)).length = 64 := by rw [length_layl, List.length_map, hk32]
  have hpo := poi_blo hk32 hkp
  have hbl := bloP_yes hk32 hkp
  obtain ⟨bs, hbs⟩ : ∃ bs, bs = layl 2 (k.map Int.toNat) := ⟨_, rfl⟩
  rw [← hbs] at hlay hpo hbl
  have H22 : Hid (∀ W : World, Below w.heap.size w W → Calls Try.prog 22 #[.slice A q c] W fun e w' => HandsB W bs 0 e w') := fun W h => by
    have := blo_any k A q c W hkq ((hrk.below h).more h.size)
    rwa [hbl] at this
  have H17 : Hid (∀ (W : World) (A1 : Option Addr) (d : Nat), Rd W W.heap.size A1 (bytesV bs) → 64 ≤ d → Calls Try.prog 17 #[.slice A1 64 d] W fun e w' => HandsI W k 0 e w') := fun W A1 d h hd => by
    have := poi_any bs A1 64 d W hlay h hd
    rwa [hpo] at this
  have HL := Lib.hid hlay
  have hpb : poiP b = ([], 1) := by unfold poiP; rw [if_neg h2]
  have hbb : bloP [] = ([], 1) := bloP_len (by decide)
  have H17b : Hid (∀ W : World, Below w.heap.size w W → Calls Try.prog 17 #[.slice A2 n2 c2] W fun e w' => HandsI W [] 1 e w') := fun W h => by
    have := poi_any b A2 n2 c2 W hn2 ((hr2.below h).more h.size) hc2
    rwa [hpb] at this
  have H22b : Hid (∀ (W : World) (A1 : Option Addr) (d : Nat), Rd W W.heap.size A1 (intsV []) → Calls Try.prog 22 #[.slice A1 0 d] W fun e w' => HandsB W [] 1 e w') := fun W A1 d h => by
    have := blo_any [] A1 0 d W rfl h
    rwa [hbb] at this
  clear hpb hbb
  have HQ := Lib.hid hq
  have HKQ := Lib.hid hkq
  have HRK := Lib.hid hrk
  have HN2 := Lib.hid hn2
  have HR2 := Lib.hid hr2
  have hqc : q ≤ c := by omega
  have hqm : q ≤ 9223372036854775807 := by omega
  have hmin : min (n : Int) 100 = (q : Int) := by omega
  clear hq hkq hrk hn2 hr2 hk32 hkp hlay hpo hbl hbs h2
  go_enter Try.func7, Try.ntmps7
  go_wp2_with (go_at_call 12; (with_reducible refine (shown_any _).mono ?_); rintro e w1 ⟨he, hb1⟩; obtain rfl := he; have HB1 := Lib.hid hb1; clear hb1)
  case' inl h =>
    have h100 : (100 : Nat) = q := by have := HQ.out; omega
    rw [h100]
  case' inr h =>
    have hnq : n = q := by have := HQ.out; omega
    rw [hnq]
  all_goals
    go_wp2_with (first
      | (go_at_call 22; (with_reducible refine (H22.out _ HB1.out).mono ?_); rintro e w2 hh; obtain ⟨A3, d3, he, hd3, hr3, hb2⟩ := hh.got (n := 64) HL.out; obtain rfl := he; have HB2 := Lib.hid (HB1.out.trans (hb2.mono HB1.out.size)); have HR3 := Lib.hid hr3; clear hh hb2 hr3)
      | (go_at_call 17; (with_reducible refine (H17.out _ A3 d3 HR3.out hd3).mono ?_); rintro e w3 hh; obtain ⟨A4, d4, he, -, -, hr4, hb3⟩ := hh.got (n := q) HKQ.out; obtain rfl := he; have HB3 := Lib.hid (HB2.out.trans (hb3.mono HB2.out.size)); have HR4 := Lib.hid hr4; clear hh hb3 hr4)
      | (go_at_call 19; (with_reducible refine (same_true k A A4 q c d4 _ _ _ HKQ.out (HRK.out.below HB3.out) HR4.out hqm).mono ?_); rintro e w4 ⟨he, q4, hw4⟩; obtain rfl := he; obtain ⟨W4, hW4⟩ : ∃ W4, W4 = w3.drewN q4 := ⟨_, rfl⟩; rw [← hW4] at hw4; subst hw4; have HB4 : Hid (Below w.heap.size w w4) := Lib.hid (by rw [hW4]; exact below_drewN HB3.out q4); clear hW4)
      | (go_at_call 17; (with_reducible refine (H17b.out _ HB4.out).mono ?_); rintro e w5 hh; obtain ⟨A5, d5, he, -, -, hr5, hb5⟩ := hh.got (n := 0) rfl; obtain rfl := he; have HB5 := Lib.hid (HB4.out.trans (hb5.mono HB4.out.size)); have HR5 := Lib.hid hr5; clear hh hb5 hr5)
      | (go_at_call 22; (with_reducible refine (H22b.out _ A5 d5 HR5.out).mono ?_); rintro e w6 hh; obtain ⟨A6, d6, he, -, hr6, hb6⟩ := hh.got (n := 0) rfl; obtain rfl := he; have HB6 := Lib.hid (HB5.out.trans (hb6.mono HB5.out.size)); clear hh hb6 hr6))
    go_ret
    exact ⟨rfl, HB6.out⟩

set_option maxHeartbeats 1600000 in
set_option maxRecDepth 100000 in
theorem blocks01 (k : List Int) (A : Option Addr) (n c q : Nat) (b : List UInt8) (A2 : Option Addr) (n2 c2 : Nat) (w : World) (hq : min n 100 = q) (hkq : k.length = q) (hc : n ≤ c) (hm : c ≤ 9223372036854775807) (hrk : Rd w w.heap.size A (intsV k))
    (hn2 : b.length = n2) (hc2 : n2 ≤ c2) (hr2 : Rd w w.heap.size A2 (bytesV b)) (h200 : n2 ≤ 200) (h1 : ¬ (k.length = 32 ∧ k.all ptrB = true)) (h2 : b.length = 64 ∧ (ptrs b).all ptrB = true) :
    Calls Try.prog 7 #[.slice A n c, .slice A2 n2 c2] w fun e w' => e = .returned (.bool true) ∧ Below w.heap.size w w' := by
  have hbl : bloP k = ([], 1) := by unfold bloP; rw [if_neg h1]
  have H22 : Hid (∀ W : World, Below w.heap.size w W → Calls Try.prog 22 #[.slice A q c] W fun e w' => HandsB W [] 1 e w') := fun W h => by
    have := blo_any k A q c W hkq ((hrk.below h).more h.size)
    rwa [hbl] at this
  have hpo : poiP [] = ([], 1) := poiP_len (by decide)
  have H17 : Hid (∀ (W : World) (A1 : Option Addr) (d : Nat), Rd W W.heap.size A1 (bytesV []) → 0 ≤ d → Calls Try.prog 17 #[.slice A1 0 d] W fun e w' => HandsI W [] 1 e w') := fun W A1 d h hd => by
    have := poi_any [] A1 0 d W rfl h hd
    rwa [hpo] at this
  obtain ⟨hb64, hbp⟩ := h2
  have hpb := poiP_yes hb64 hbp
  have hbb := blo_poi hb64 hbp
  have hzl : (ptrs b).length = 32 := by rw [length_ptrs, hb64]
  generalize ptrs b = zs at *
  have HZ := Lib.hid hzl
  have H17b : Hid (∀ W : World, Below w.heap.size w W → Calls Try.prog 17 #[.slice A2 n2 c2] W fun e w' => HandsI W zs 0 e w') := fun W h => by
    have := poi_any b A2 n2 c2 W hn2 ((hr2.below h).more h.size) hc2
    rwa [hpb] at this
  have H22b : Hid (∀ (W : World) (A1 : Option Addr) (d : Nat), Rd W W.heap.size A1 (intsV zs) → Calls Try.prog 22 #[.slice A1 32 d] W fun e w' => HandsB W b 0 e w') := fun W A1 d h => by
    have := blo_any zs A1 32 d W hzl h
    rwa [hbb] at this
  clear hpb hbb hzl hbp
  have HQ := Lib.hid hq
  have HKQ := Lib.hid hkq
  have HRK := Lib.hid hrk
  have HN2 := Lib.hid hn2
  have HR2 := Lib.hid hr2
  have hqc : q ≤ c := by omega
  have hqm : q ≤ 9223372036854775807 := by omega
  have hmin : min (n : Int) 100 = (q : Int) := by omega
  clear hq hkq hrk hn2 hr2 hpo hbl h1 hb64
  go_enter Try.func7, Try.ntmps7
  go_wp2_with (go_at_call 12; (with_reducible refine (shown_any _).mono ?_); rintro e w1 ⟨he, hb1⟩; obtain rfl := he; have HB1 := Lib.hid hb1; clear hb1)
  case' inl h =>
    have h100 : (100 : Nat) = q := by have := HQ.out; omega
    rw [h100]
  case' inr h =>
    have hnq : n = q := by have := HQ.out; omega
    rw [hnq]
  all_goals
    go_wp2_with (first
      | (go_at_call 22; (with_reducible refine (H22.out _ HB1.out).mono ?_); rintro e w2 hh; obtain ⟨A3, d3, he, hd3, hr3, hb2⟩ := hh.got (n := 0) rfl; obtain rfl := he; have HB2 := Lib.hid (HB1.out.trans (hb2.mono HB1.out.size)); have HR3 := Lib.hid hr3; clear hh hb2 hr3)
      | (go_at_call 17; (with_reducible refine (H17.out _ A3 d3 HR3.out hd3).mono ?_); rintro e w3 hh; obtain ⟨A4, d4, he, -, -, hr4, hb3⟩ := hh.got (n := 0) rfl; obtain rfl := he; have HB3 := Lib.hid (HB2.out.trans (hb3.mono HB2.out.size)); have HR4 := Lib.hid hr4; clear hh hb3 hr4)
      | (go_at_call 17; (with_reducible refine (H17b.out _ HB3.out).mono ?_); rintro e w5 hh; obtain ⟨A5, d5, he, -, -, hr5, hb5⟩ := hh.got (n := 32) HZ.out; obtain rfl := he; have HB5 := Lib.hid (HB3.out.trans (hb5.mono HB3.out.size)); have HR5 := Lib.hid hr5; clear hh hb5 hr5)
      | (go_at_call 22; (with_reducible refine (H22b.out _ A5 d5 HR5.out).mono ?_); rintro e w6 hh; obtain ⟨A6, d6, he, -, hr6, hb6⟩ := hh.got (n := n2) HN2.out; obtain rfl := he; have HB6 := Lib.hid (HB5.out.trans (hb6.mono HB5.out.size)); have s1 := str_of (c := d6) HN2.out hr6; have s2 := str_of (c := c2) HN2.out (HR2.out.below HB6.out); clear hh hb6 hr6))
    go_ret
    exact ⟨rfl, HB6.out⟩

set_option maxHeartbeats 1600000 in
set_option maxRecDepth 100000 in
theorem blocks00 (k : List Int) (A : Option Addr) (n c q : Nat) (b : List UInt8) (A2 : Option Addr) (n2 c2 : Nat) (w : World) (hq : min n 100 = q) (hkq : k.length = q) (hc : n ≤ c) (hm : c ≤ 9223372036854775807) (hrk : Rd w w.heap.size A (intsV k))
    (hn2 : b.length = n2) (hc2 : n2 ≤ c2) (hr2 : Rd w w.heap.size A2 (bytesV b)) (h200 : n2 ≤ 200) (h1 : ¬ (k.length = 32 ∧ k.all ptrB = true)) (h2 : ¬ (b.length = 64 ∧ (ptrs b).all ptrB = true)) :
    Calls Try.prog 7 #[.slice A n c, .slice A2 n2 c2] w fun e w' => e = .returned (.bool true) ∧ Below w.heap.size w w' := by
  have hbl : bloP k = ([], 1) := by unfold bloP; rw [if_neg h1]
  have H22 : Hid (∀ W : World, Below w.heap.size w W → Calls Try.prog 22 #[.slice A q c] W fun e w' => HandsB W [] 1 e w') := fun W h => by
    have := blo_any k A q c W hkq ((hrk.below h).more h.size)
    rwa [hbl] at this
  have hpo : poiP [] = ([], 1) := poiP_len (by decide)
  have H17 : Hid (∀ (W : World) (A1 : Option Addr) (d : Nat), Rd W W.heap.size A1 (bytesV []) → 0 ≤ d → Calls Try.prog 17 #[.slice A1 0 d] W fun e w' => HandsI W [] 1 e w') := fun W A1 d h hd => by
    have := poi_any [] A1 0 d W rfl h hd
    rwa [hpo] at this
  have hpb : poiP b = ([], 1) := by unfold poiP; rw [if_neg h2]
  have hbb : bloP [] = ([], 1) := bloP_len (by decide)
  have H17b : Hid (∀ W : World, Below w.heap.size w W → Calls Try.prog 17 #[.slice A2 n2 c2] W fun e w' => HandsI W [] 1 e w') := fun W h => by
    have := poi_any b A2 n2 c2 W hn2 ((hr2.below h).more h.size) hc2
    rwa [hpb] at this
  have H22b : Hid (∀ (W : World) (A1 : Option Addr) (d : Nat), Rd W W.heap.size A1 (intsV []) → Calls Try.prog 22 #[.slice A1 0 d] W fun e w' => HandsB W [] 1 e w') := fun W A1 d h => by
    have := blo_any [] A1 0 d W rfl h
    rwa [hbb] at this
  clear hpb hbb
  have HQ := Lib.hid hq
  have HKQ := Lib.hid hkq
  have HRK := Lib.hid hrk
  have HN2 := Lib.hid hn2
  have HR2 := Lib.hid hr2
  have hqc : q ≤ c := by omega
  have hqm : q ≤ 9223372036854775807 := by omega
  have hmin : min (n : Int) 100 = (q : Int) := by omega
  clear hq hkq hrk hn2 hr2 hpo hbl h1 h2
  go_enter Try.func7, Try.ntmps7
  go_wp2_with (go_at_call 12; (with_reducible refine (shown_any _).mono ?_); rintro e w1 ⟨he, hb1⟩; obtain rfl := he; have HB1 := Lib.hid hb1; clear hb1)
  case' inl h =>
    have h100 : (100 : Nat) = q := by have := HQ.out; omega
    rw [h100]
  case' inr h =>
    have hnq : n = q := by have := HQ.out; omega
    rw [hnq]
  all_goals
    go_wp2_with (first
      | (go_at_call 22; (with_reducible refine (H22.out _ HB1.out).mono ?_); rintro e w2 hh; obtain ⟨A3, d3, he, hd3, hr3, hb2⟩ := hh.got (n := 0) rfl; obtain rfl := he; have HB2 := Lib.hid (HB1.out.trans (hb2.mono HB1.out.size)); have HR3 := Lib.hid hr3; clear hh hb2 hr3)
      | (go_at_call 17; (with_reducible refine (H17.out _ A3 d3 HR3.out hd3).mono ?_); rintro e w3 hh; obtain ⟨A4, d4, he, -, -, hr4, hb3⟩ := hh.got (n := 0) rfl; obtain rfl := he; have HB3 := Lib.hid (HB2.out.trans (hb3.mono HB2.out.size)); have HR4 := Lib.hid hr4; clear hh hb3 hr4)
      | (go_at_call 17; (with_reducible refine (H17b.out _ HB3.out).mono ?_); rintro e w5 hh; obtain ⟨A5, d5, he, -, -, hr5, hb5⟩ := hh.got (n := 0) rfl; obtain rfl := he; have HB5 := Lib.hid (HB3.out.trans (hb5.mono HB3.out.size)); have HR5 := Lib.hid hr5; clear hh hb5 hr5)
      | (go_at_call 22; (with_reducible refine (H22b.out _ A5 d5 HR5.out).mono ?_); rintro e w6 hh; obtain ⟨A6, d6, he, -, hr6, hb6⟩ := hh.got (n := 0) rfl; obtain rfl := he; have HB6 := Lib.hid (HB5.out.trans (hb6.mono HB5.out.size)); clear hh hb6 hr6))
    go_ret
    exact ⟨rfl, HB6.out⟩

set_option maxRecDepth 100000 in
theorem blocks_walk (l : List Int) (A : Option Addr) (n c : Nat) (b : List UInt8) (A2 : Option Addr) (n2 c2 : Nat) (w : World) (hn : l.length = n) (hc : n ≤ c) (hm : c ≤ 9223372036854775807) (hr : Rd w w.heap.size A (intsV l))
    (hn2 : b.length = n2) (hc2 : n2 ≤ c2) (hr2 : Rd w w.heap.size A2 (bytesV b)) :
    Calls Try.prog 7 #[.slice A n c, .slice A2 n2 c2] w fun e w' => e = .returned (.bool true) ∧ Below w.heap.size w w' := by
  by_cases h : n2 ≤ 200
  · have hkq : (l.take 100).length = min n 100 := by rw [List.length_take, hn]; omega
    have hrk : Rd w w.heap.size A (intsV (l.take 100)) := by rw [intsV_take]; exact hr.take 100
    by_cases h1 : (l.take 100).length = 32 ∧ (l.take 100).all ptrB = true
    · by_cases h2 : b.length = 64 ∧ (ptrs b).all ptrB = true
      · exact blocks11 _ A n c _ b A2 n2 c2 w rfl hkq hc hm hrk hn2 hc2 hr2 h h1 h2
      · exact blocks10 _ A n c _ b A2 n2 c2 w rfl hkq hc hm hrk hn2 hc2 hr2 h h1 h2
    · by_cases h2 : b.length = 64 ∧ (ptrs b).all ptrB = true
      · exact blocks01 _ A n c _ b A2 n2 c2 w rfl hkq hc hm hrk hn2 hc2 hr2 h h1 h2
      · exact blocks00 _ A n c _ b A2 n2 c2 w rfl hkq hc hm hrk hn2 hc2 hr2 h h1 h2
  · clear hn hc hm hr hn2 hc2 hr2
    go_enter Try.func7, Try.ntmps7
    go_wp2_with (go_at_call 12; (with_reducible refine (shown_any _).mono ?_); rintro e w1 ⟨he, hb1⟩; obtain rfl := he; have HB1 := Lib.hid hb1; clear hb1)
    go_ret
    exact ⟨rfl, HB1.out⟩

theorem blocks_contract (H : Type) (enc : TypeId × Value → H) (W : World) (base : Nat) (args : Array Value) (ds gs : List (DataW H)) (before : List MemPlace)
    (hval : ∀ (j : Nat) t v, Try.f7.params[j]? = some t → args[j]? = some v → Value.okWide Try.prog W .any base t v)
    (hW : DataW.Whole enc Try.prog Try.f7.params.toList Rows.inodeBlocksSpec.vars false W args.toList ds gs before) :
    Calls Try.prog 7 args W fun e W' => ∃ v, e = .returned v ∧ Rows.inodeBlocksSpec.post enc Try.prog Try.f7 false true false false W args v W' := by
  have hW' := hW
  have hlt : ∀ x ∈ before, x.block < W.heap.size := fun x hx => hW.lt x hx
  obtain ⟨p, q, hA0, hV, rfl, _, _⟩ := hW
  have hA : DataW.TrodAll enc Try.prog W 0 (fun _ => true) true Try.f7.params.toList args.toList ds p := hA0
  rw [Try.params7] at hA hval
  obtain ⟨v0, vs0, d0, ds0, p0, q0, hargs, rfl, rfl, h0, r0⟩ := trodAll_cons hA
  obtain ⟨v1, vs1, d1, ds1, p1, q1, rfl, rfl, rfl, h1, r1⟩ := trodAll_cons r0
  obtain ⟨rfl, rfl, rfl⟩ := trodAll_nil r1
  obtain rfl : args = #[v0, v1] := by cases args; simp_all
  obtain ⟨rfl, rfl⟩ := trodVars_none hV
  clear hA0
  obtain ⟨A0, n0, c0, l0, rfl, hn0, hc0, hm0, hr0⟩ := open_intsL Try.underlying33 Try.underlying3 cells3 (hval 0 33 v0 rfl rfl) h0 (fun x hx => hlt x (by simp [hx]))
  unfold maxLen at hm0
  obtain ⟨A1, n1, c1, l1, rfl, hn1, hc1, hm1, hr1⟩ := open_bytesL Try.underlying25 Try.underlying5 cells5 (hval 1 25 v1 rfl rfl) h1 (fun x hx => hlt x (by simp [hx]))
  unfold maxLen at hm1
  refine (blocks_walk l0 A0 n0 c0 l1 A1 n1 c1 W hn0 hc0 (by omega) hr0 hn1 hc1 hr1).mono fun e W' ⟨he, hb⟩ => ?_
  subst he
  exact ⟨_, rfl, law_post laid (by kernel_rfl) Try.underlying4 (by rw [Try.params7]; decide +kernel) rfl hW' ⟨rfl, rfl, rfl⟩ hb⟩

set_option maxRecDepth 100000 in
theorem blocks_lifted (os : Os) (started : os.Started) (H : Type) (enc : TypeId × Value → H) :
    ReturnsInHanded {} Try.checked os 7 .any (Rows.inodeBlocksSpec.pre6 enc Try.prog Try.f7 Rows.inodeBlocksRow.domain false) (Rows.inodeBlocksSpec.post enc Try.prog Try.f7 false true false false) := by
  refine returnsInHanded_of_change (C := Try.checked) own started (by kernel_rfl) Try.func7
    (ChangeSpec.witness6 (enc := enc) (C := Try.checked) false ⟨#[], #[.slice none 0 0, .slice none 0 0], []⟩ 8 (by kernel_rfl) (by kernel_rfl) (by kernel_rfl) (by kernel_rfl)) ?_
  intro W base args ds gs before hval hW _ _
  exact blocks_contract H enc W base args ds gs before hval hW

/-- InodeBlocks is true for every input. -/
theorem blocks_holds : Rows.InodeBlocksSaid :=
  OpenClaim.holds_of_wide 7 Try.f7 rfl rfl rfl rfl rfl rfl rfl ⟨rfl, rfl, rfl, rfl, rfl⟩ rfl rfl rfl rfl rfl (by kernel_rfl) Try.func7 (by kernel_rfl)
    (of_decide_eq_true (by kernel_rfl)) (by unfold Func.isWrapper; first | (rw [if_pos (by decide +kernel)]; kernel_rfl) | (rw [if_neg (by decide +kernel)]; exact ⟨rfl, rfl⟩))
    (fun os started H enc _ => blocks_lifted os started H enc)
end Go.Proofs.Ytahpdnfnaimbnaa
