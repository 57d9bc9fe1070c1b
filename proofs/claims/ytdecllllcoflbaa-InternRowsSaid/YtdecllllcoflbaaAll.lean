/-
  InternRows: whatever the rows, the label and the row: whether rows may be, a label's row, rows that need a label more, or less, are the document's, in memory of their own.
-/
import Derived.Test.YtdecllllcoflbaaO
namespace Go.Proofs.Ytdecllllcoflbaa
open Go.ChangeShapes Go.WideShapes Go.ChangeAt Go.RowKit Intern

/-- A row of a call's own that is written over. -/
def Loose (w : World) (base : Nat) (v : Value) (n : Nat) : Prop := ∃ xs, w.ownsRow base 37 2 v n xs
theorem Loose.shape {w : World} {base n : Nat} {v : Value} (h : Loose w base v n) (hn : 0 < n) : ∃ g c, v = .slice (some ⟨g, 0, none⟩) n c ∧ base ≤ g ∧ n ≤ c := by
  obtain ⟨xs, h⟩ := h
  rcases h.2 with ⟨_, h0⟩ | ⟨g, cap, _, hv, hb, _, hc, _⟩
  · omega
  · exact ⟨g, cap, hv, hb, hc⟩
theorem Loose.at {w : World} {base g n c : Nat} (h : Loose w base (.slice (some ⟨g, 0, none⟩) n c) n) {j : Nat} (hj : j < n) : (∃ u, w.cell? ⟨g, j * 2 + 1, none⟩ = some u) ∧ w.frozen? ⟨g, j * 2 + 1, none⟩ = false ∧ g < w.heap.size := by
  obtain ⟨xs, h⟩ := h
  have hl := h.1
  exact ⟨⟨_, (h.cellAt _ (by omega)).trans (List.getElem?_eq_getElem (by omega))⟩, h.frozenAt _, (h.lt g rfl).2⟩
theorem Loose.set {w : World} {base g n c : Nat} (h : Loose w base (.slice (some ⟨g, 0, none⟩) n c) n) (j : Nat) (u : Value) : Loose (w.setCell ⟨g, j, none⟩ u) base (.slice (some ⟨g, 0, none⟩) n c) n := by
  obtain ⟨xs, h⟩ := h
  exact ⟨_, (h.stored j u).1⟩
theorem Loose.len {w : World} {base n : Nat} {v : Value} (h : Loose w base v n) : ∃ A c, v = .slice A n c ∧ n ≤ c := by
  obtain ⟨xs, h⟩ := h
  rcases h.2 with ⟨rfl, rfl⟩ | ⟨g, cap, _, hv, hb, _, hc, _⟩
  · exact ⟨none, 0, rfl, Nat.le_refl _⟩
  · exact ⟨_, cap, hv, hc⟩
theorem Loose.below {w w' : World} {base n : Nat} {v : Value} (h : Loose w base v n) (hb : Below w.heap.size w w') : Loose w' base v n := by
  obtain ⟨xs, h⟩ := h
  exact ⟨xs, own_below h hb⟩
theorem Loose.other {w : World} {base n : Nat} {v : Value} (h : Loose w base v n) {a : Addr} (ha : a.block < base) (u : Value) : Loose (w.setCell a u) base v n := by
  obtain ⟨xs, h⟩ := h
  exact ⟨xs, ownsRow_setCell_below h ha u⟩

set_option maxHeartbeats 1600000 in
set_option maxRecDepth 100000 in
theorem rows_walk (l : List Rw) (A : Option Addr) (n c a : Nat) (row : Int) (w : World) (hn : l.length = n) (hr : Rd w w.heap.size A (rowsV l)) (hc : n ≤ c) (hm : n ≤ 9223372036854775807) :
    Calls Try.prog 3 #[.slice A n c, .int .u16 (a : Int), .int .i64 row] w fun e w' => e = .returned (.bool true) ∧ Below w.heap.size w w' := by
  obtain ⟨q, hq⟩ : ∃ q, q = min n 20 := ⟨_, rfl⟩
  have hkq : (l.take 20).length = q := by rw [List.length_take, hn, hq]; omega
  have hr6 : Rd w w.heap.size A (rowsV (l.take 20)) := by rw [rowsV_take]; exact hr.take 40
  have few := fun w => few_any A n c w hc hm
  rw [← hq] at few
  have hq20 : q ≤ 20 := by omega
  have Few := Lib.hid few
  generalize l.take 20 = k at hkq hr6
  obtain ⟨fi, fb, hF⟩ : ∃ (fi : Nat) (fb : Bool), fndV (fndP k a) = .tuple #[.int .i64 (fi : Int), .bool fb] := ⟨_, _, rfl⟩
  obtain ⟨rm, ri, re, hP⟩ : ∃ rm ri re, retP k a = ⟨rm, ri, re⟩ := ⟨_, _, _, rfl⟩
  obtain ⟨sm, si, se, hS⟩ : ∃ sm si se, relP k row = ⟨sm, si, se⟩ := ⟨_, _, _, rfl⟩
  obtain ⟨b, hb⟩ : ∃ b, rightB k = b := ⟨_, rfl⟩
  have hrm : rm.length ≤ 16 := by
    have : (retP k a).rows.length ≤ 16 := by
      by_cases hR : Right k
      · unfold retP
        rw [rightB_yes hR]
        simp only [if_true]
        split
        · split
          · simp [Res.bad]
          · simp [hR.len]
        · split
          · simp [hR.len]
          · simp [Res.bad]
      · rw [retP_no hR]; simp [Res.bad]
    rwa [hP] at this
  have hsm : sm.length ≤ 16 := by
    have : (relP k row).rows.length ≤ 16 := by
      by_cases hR : Right k
      · unfold relP
        split
        · split
          · simp [Res.bad]
          · simp [hR.len]
        · simp [Res.bad]
      · rw [relP_no hR]; simp [Res.bad]
    rwa [hS] at this
  have RD : ∀ w1 : World, Below w.heap.size w w1 → Rd w1 w1.heap.size A (rowsV k) := fun w1 h1 => (hr6.below h1).more h1.size
  have H11 : Hid (∀ w1 : World, Below w.heap.size w w1 → Calls Try.prog 11 #[.slice A q c, .int .u16 (a : Int)] w1 fun e w' => e = .returned (.tuple #[.int .i64 (fi : Int), .bool fb]) ∧ Below w1.heap.size w1 w') := fun w1 h1 => by
    rw [← hF]; exact find_any k A q c a w1 hkq (RD w1 h1) (by omega)
  have H12 : Hid (∀ w1 : World, Below w.heap.size w w1 → Calls Try.prog 12 #[.slice A q c, .int .u16 (a : Int)] w1 fun e w' => e = .returned (.tuple #[.int .i64 (fi : Int), .bool fb]) ∧ ∃ q, w' = w1.drewN q) := fun w1 h1 => by
    rw [← hF]; exact rfind_any k A q c a _ w1 hkq (RD w1 h1) (by omega)
  have H13 : Hid (∀ w1 : World, Below w.heap.size w w1 → Calls Try.prog 13 #[.slice A q c, .int .u16 (a : Int)] w1 fun e w' => Hands3 w1 ⟨rm, ri, re⟩ e w') := fun w1 h1 => by
    rw [← hP]; exact ret_any k A q c a w1 hkq (RD w1 h1)
  have H14 : Hid (∀ w1 : World, Below w.heap.size w w1 → Calls Try.prog 14 #[.slice A q c, .int .u16 (a : Int)] w1 fun e w' => Hands3 w1 ⟨rm, ri, re⟩ e w') := fun w1 h1 => by
    rw [← hP]; exact rret_any k A q c a w1 hkq (RD w1 h1)
  have H15 : Hid (∀ w1 : World, Below w.heap.size w w1 → Calls Try.prog 15 #[.slice A q c, .int .i64 row] w1 fun e w' => Hands2 w1 ⟨sm, si, se⟩ e w') := fun w1 h1 => by
    rw [← hS]; exact rel_any k A q c row w1 hkq (RD w1 h1)
  have H16 : Hid (∀ w1 : World, Below w.heap.size w w1 → Calls Try.prog 16 #[.slice A q c, .int .i64 row] w1 fun e w' => Hands2 w1 ⟨sm, si, se⟩ e w') := fun w1 h1 => by
    rw [← hS]; exact rrel_any k A q c row w1 hkq (RD w1 h1)
  have H17 : Hid (∀ w1 : World, Below w.heap.size w w1 → Calls Try.prog 17 #[.slice A q c] w1 fun e w' => e = .returned (.bool b) ∧ Below w1.heap.size w1 w') := fun w1 h1 => by
    rw [← hb]; exact right_all k A q c w1 hkq (RD w1 h1)
  have H18 : Hid (∀ w1 : World, Below w.heap.size w w1 → Calls Try.prog 18 #[.slice A q c] w1 fun e w' => e = .returned (.bool b) ∧ ∃ q, w' = w1.drewN q) := fun w1 h1 => by
    rw [← hb]; exact rright_all k A q c _ w1 hkq (RD w1 h1)
  have RD := Lib.hid RD
  have Hkq := Lib.hid hkq
  have hbb : (b == b) = true := by simp
  have hfb : (fb == fb) = true := by simp
  clear hn hr hc hm hq hkq hr6 few hF hP hS hb
  go_enter Try.func3, Try.ntmps3
  go_wp2_with (first
    | (go_at_call 9; (with_reducible refine (shown_any _).mono ?_); rintro e w0 ⟨he, hb0⟩; obtain rfl := he; have HB0 := Lib.hid hb0; clear hb0)
    | (go_at_call 10; (with_reducible refine (Few.out _).mono ?_); rintro e w' ⟨he, hw⟩; obtain rfl := he; subst hw)
    | (at_builtin; refine wpList_fresh _ rfl (.tmp 30) (.tmp 31) rfl _ rfl rfl _ q c k rfl Hkq.out (RD.out _ HB0.out) (by omega) ?_; intro v1 w1 hown1 hb1; obtain ⟨A1, d1, hv1, hd1, _, hr1⟩ := own_rows (l := k) (by rw [Hkq.out]; exact hown1); rw [Hkq.out] at hv1; subst hv1; have HB1 := Lib.hid (HB0.out.trans (hb1.mono HB0.out.size)); have HR1 := Lib.hid hr1; clear hb1 hown1 hr1)
    | (go_at_call 11; (with_reducible refine (H11.out _ HB1.out).mono ?_); rintro e w2 ⟨he, hb2⟩; obtain rfl := he; have HB2 := Lib.hid (HB1.out.trans (hb2.mono HB1.out.size)); have HR2 := Lib.hid ((HR1.out.below hb2).more hb2.size); clear hb2)
    | (go_at_call 12; (with_reducible refine (H12.out _ HB2.out).mono ?_); rintro e w3 ⟨he, q3, hw3⟩; obtain rfl := he; have hb3 : Below w2.heap.size w2 w3 := (by subst hw3; exact below_drewN (Below.refl _ _) q3); have HB3 := Lib.hid (HB2.out.trans (hb3.mono HB2.out.size)); have HR3 := Lib.hid ((HR2.out.below hb3).more hb3.size); clear hb3 hw3)
    | (go_at_call 13; (with_reducible refine (H13.out _ HB3.out).mono ?_); rintro e w4 ⟨v4, he, hown4, hb4⟩; obtain rfl := he; have hL4 : Loose w4 w3.heap.size v4 rm.length := ⟨_, hown4⟩; obtain ⟨A4, d4, hv4, _, _, hr4⟩ := own_rows (l := rm) hown4; subst hv4; have HB4 := Lib.hid (HB3.out.trans (hb4.mono HB3.out.size)); have HR4 := Lib.hid ((HR3.out.below hb4).more hb4.size); have HP4 := Lib.hid hr4; have HL4 := Lib.hid hL4; have HM4 := Lib.hid hb4; clear hb4 hown4 hr4 hL4)
    | (go_at_call 14; (with_reducible refine (H14.out _ HB4.out).mono ?_); rintro e w5 ⟨v5, he, hown5, hb5⟩; obtain rfl := he; obtain ⟨A5, d5, hv5, _, _, hr5⟩ := own_rows (l := rm) hown5; subst hv5; have HB5 := Lib.hid (HB4.out.trans (hb5.mono HB4.out.size)); have HR5 := Lib.hid ((HR4.out.below hb5).more hb5.size); have HP5 := Lib.hid ((HP4.out.below hb5).more hb5.size); have HQ5 := Lib.hid hr5; have HK5 := Lib.hid hb5; clear hb5 hown5 hr5)
    | (go_at_call 15; (with_reducible refine (H15.out _ HB5.out).mono ?_); rintro e w6 ⟨v6, he, hown6, hb6⟩; obtain rfl := he; have hL6 : Loose w6 w5.heap.size v6 sm.length := ⟨_, hown6⟩; obtain ⟨A6, d6, hv6, _, _, hr6⟩ := own_rows (l := sm) hown6; subst hv6; have HB6 := Lib.hid (HB5.out.trans (hb6.mono HB5.out.size)); have HR6 := Lib.hid ((HR5.out.below hb6).more hb6.size); have HP6 := Lib.hid ((HP5.out.below hb6).more hb6.size); have HQ6 := Lib.hid ((HQ5.out.below hb6).more hb6.size); have HS6 := Lib.hid hr6; have HL6 := Lib.hid hL6; have HK6 := Lib.hid (HK5.out.trans (hb6.mono HK5.out.size)); clear hb6 hown6 hr6 hL6)
    | (go_at_call 16; (with_reducible refine (H16.out _ HB6.out).mono ?_); rintro e w7 ⟨v7, he, hown7, hb7⟩; obtain rfl := he; obtain ⟨A7, d7, hv7, _, _, hr7⟩ := own_rows (l := sm) hown7; subst hv7; have HB7 := Lib.hid (HB6.out.trans (hb7.mono HB6.out.size)); have HR7 := Lib.hid ((HR6.out.below hb7).more hb7.size); have HP7 := Lib.hid ((HP6.out.below hb7).more hb7.size); have HQ7 := Lib.hid ((HQ6.out.below hb7).more hb7.size); have HS7 := Lib.hid ((HS6.out.below hb7).more hb7.size); have HT7 := Lib.hid hr7; have HK7 := Lib.hid (HK6.out.trans (hb7.mono HK6.out.size)); have HJ7 := Lib.hid hb7; clear hb7 hown7 hr7)
    | (go_at_call 17; (with_reducible refine (H17.out _ HB7.out).mono ?_); rintro e w8 ⟨he, hb8⟩; obtain rfl := he; have HB8 := Lib.hid (HB7.out.trans (hb8.mono HB7.out.size)); have HR8 := Lib.hid ((HR7.out.below hb8).more hb8.size); have HP8 := Lib.hid ((HP7.out.below hb8).more hb8.size); have HQ8 := Lib.hid ((HQ7.out.below hb8).more hb8.size); have HS8 := Lib.hid ((HS7.out.below hb8).more hb8.size); have HT8 := Lib.hid ((HT7.out.below hb8).more hb8.size); have HK8 := Lib.hid (HK7.out.trans (hb8.mono HK7.out.size)); have HJ8 := Lib.hid (HJ7.out.trans (hb8.mono HJ7.out.size)); clear hb8)
    | (go_at_call 18; (with_reducible refine (H18.out _ HB8.out).mono ?_); rintro e w9 ⟨he, q9, hw9⟩; obtain rfl := he; have hb9 : Below w8.heap.size w8 w9 := (by subst hw9; exact below_drewN (Below.refl _ _) q9); have HB9 := Lib.hid (HB8.out.trans (hb9.mono HB8.out.size)); have HR9 := Lib.hid ((HR8.out.below hb9).more hb9.size); have HP9 := Lib.hid ((HP8.out.below hb9).more hb9.size); have HQ9 := Lib.hid ((HQ8.out.below hb9).more hb9.size); have HS9 := Lib.hid ((HS8.out.below hb9).more hb9.size); have HT9 := Lib.hid ((HT8.out.below hb9).more hb9.size); have HK9 := Lib.hid (HK8.out.trans (hb9.mono HK8.out.size)); have HJ9 := Lib.hid (HJ8.out.trans (hb9.mono HJ8.out.size)); clear hb9 hw9)
    | (go_at_call 19; (with_reducible refine (same_true rm A4 A5 _ d4 d5 _ _ _ rfl HP9.out HQ9.out (Nat.le_trans hrm (by decide))).mono ?_); rintro e wa ⟨he, qa, hwa⟩; obtain rfl := he; have hba : Below w9.heap.size w9 wa := (by subst hwa; exact below_drewN (Below.refl _ _) qa); have HBa := Lib.hid (HB9.out.trans (hba.mono HB9.out.size)); have HRa := Lib.hid ((HR9.out.below hba).more hba.size); have HSa := Lib.hid ((HS9.out.below hba).more hba.size); have HTa := Lib.hid ((HT9.out.below hba).more hba.size); have HKa := Lib.hid (HK9.out.trans (hba.mono HK9.out.size)); have HJa := Lib.hid (HJ9.out.trans (hba.mono HJ9.out.size)); clear hba hwa)
    | (go_at_call 19; (with_reducible refine (same_true sm A6 A7 _ d6 d7 _ _ _ rfl HSa.out HTa.out (Nat.le_trans hsm (by decide))).mono ?_); rintro e wb ⟨he, qb, hwb⟩; obtain rfl := he; have hbb2 : Below wa.heap.size wa wb := (by subst hwb; exact below_drewN (Below.refl _ _) qb); have HBb := Lib.hid (HBa.out.trans (hbb2.mono HBa.out.size)); have HRb := Lib.hid ((HRa.out.below hbb2).more hbb2.size); have HKb := Lib.hid (HKa.out.trans (hbb2.mono HKa.out.size)); have HJb := Lib.hid (HJa.out.trans (hbb2.mono HJa.out.size)); clear hbb2 hwb))
  have HF3 := Lib.hid (HM4.out.trans (HKb.out.mono HM4.out.size))
  have HLp := Lib.hid (HL4.out.below HKb.out)
  have HLs := Lib.hid (HL6.out.below HJb.out)
  have HS35 := Lib.hid (Nat.le_trans HM4.out.size HK5.out.size)
  have HG4 : Hid (∀ g o, A4 = some ⟨g, o, none⟩ → 0 < rm.length → g < w5.heap.size) := Lib.hid fun g o h h0 => by
    obtain ⟨g', c', hv, _⟩ := HL4.out.shape h0
    rw [h] at hv
    injection hv with h1
    injection h1 with h1
    injection h1 with h1
    have := HL4.out
    rw [h, h1] at this
    obtain ⟨xs, hx⟩ := this
    have := (hx.lt g' rfl).2
    have := HK5.out.size
    omega
  clear HB0 HB1 HB2 HB4 HB5 HB6 HB7 HB8 HB9 HBa HR1 HR2 HR4 HR5 HR6 HR7 HR8 HR9 HRa HRb HP4 HP5 HP6 HP7 HP8 HP9 HQ5 HQ6 HQ7 HQ8 HQ9 HS6 HS7 HS8 HS9 HSa HT7 HT8 HT9 HTa HK5 HK6 HK7 HK8 HK9 HKa HKb HJ7 HJ8 HJ9 HJa HJb HL4 HL6 HM4 HBb H11 H12 H13 H14 H15 H16 H17 H18 Few
  go_loopw [25, 113] (fun _ i wr => ∃ j : Nat, j ≤ rm.length ∧ i = .int .i64 (j : Int) ∧ Below w3.heap.size w3 wr ∧ Loose wr w3.heap.size (.slice A4 rm.length d4) rm.length ∧ Loose wr w5.heap.size (.slice A6 sm.length d6) sm.length) (fun _ i _ => rm.length - (intOf i).toNat)
  case atStart => exact ⟨0, Nat.zero_le _, rfl, HF3.out, HLp.out, HLs.out⟩
  case round =>
    obtain ⟨j, hj, rfl, hbel, hp, hs⟩ := hrel
    by_cases hlt : j < rm.length
    · obtain ⟨g, c', hv, hg, _⟩ := hp.shape (by omega)
      obtain rfl : A4 = some ⟨g, 0, none⟩ := by injection hv
      obtain ⟨⟨u, hu⟩, hf, hgs⟩ := hp.at hlt
      have hg5 := HG4.out g 0 rfl (by omega)
      have HP2 := Lib.hid (hp.set (j * 2 + 1) (.int .i64 77))
      have HS2 := Lib.hid (hs.other (a := ⟨g, j * 2 + 1, none⟩) hg5 (.int .i64 77))
      have HB2 := Lib.hid (hbel.setCell (p := ⟨g, j * 2 + 1, none⟩) hg (.int .i64 77))
      clear hp hs hbel hv
      go_wp2
      go_roundw
      case rel => exact ⟨j + 1, by omega, by go_num, HB2.out, HP2.out, HS2.out⟩
      case measure => simp [intOf]; omega
    · have hje : j = rm.length := by omega
      have HB1 := Lib.hid hbel
      have HS1 := Lib.hid hs
      clear hp hs hbel
      go_wp2
      go_loopw [26, 123] (fun _ i wr => ∃ j : Nat, j ≤ sm.length ∧ i = .int .i64 (j : Int) ∧ Below w3.heap.size w3 wr ∧ Loose wr w5.heap.size (.slice A6 sm.length d6) sm.length) (fun _ i _ => sm.length - (intOf i).toNat)
      case atStart => exact ⟨0, Nat.zero_le _, rfl, HB1.out, HS1.out⟩
      case round =>
        obtain ⟨m, hm, rfl, hbel, hs⟩ := hrel
        by_cases hlt2 : m < sm.length
        · obtain ⟨g, c', hv, hg, _⟩ := hs.shape (by omega)
          obtain rfl : A6 = some ⟨g, 0, none⟩ := by injection hv
          obtain ⟨⟨u, hu⟩, hf, hgs⟩ := hs.at hlt2
          have HS2 := Lib.hid (hs.set (m * 2 + 1) (.int .i64 77))
          have HB2 := Lib.hid (hbel.setCell (p := ⟨g, m * 2 + 1, none⟩) (Nat.le_trans HS35.out hg) (.int .i64 77))
          clear hs hbel hv
          go_wp2
          go_roundw
          case rel => exact ⟨m + 1, by omega, by go_num, HB2.out, HS2.out⟩
          case measure => simp [intOf]; omega
        · have hme : m = sm.length := by omega
          have HB2 := Lib.hid hbel
          have HRx := Lib.hid (HR3.out.below hbel)
          have HRk := Lib.hid (RD.out _ (HB3.out.trans (hbel.mono HB3.out.size)))
          clear hs hbel
          go_wp2_with (go_at_call 19; (with_reducible refine (same_true k A A1 q c d1 _ _ _ Hkq.out HRk.out HRx.out (by omega)).mono ?_); rintro e wz ⟨he, qz, hwz⟩; obtain rfl := he; have HBz := Lib.hid (by subst hwz; exact below_drewN (HB3.out.trans (HB2.out.mono HB3.out.size)) qz : Below w.heap.size w wz); clear hwz)
          go_ret
          exact ⟨rfl, HBz.out⟩
theorem rows_int (l : List Rw) (A : Option Addr) (n c : Nat) (x : Int) (hx : 0 ≤ x ∧ x ≤ 65535) (row : Int) (w : World) (hn : l.length = n) (hr : Rd w w.heap.size A (rowsV l)) (hc : n ≤ c) (hm : n ≤ 9223372036854775807) :
    Calls Try.prog 3 #[.slice A n c, .int .u16 x, .int .i64 row] w fun e w' => e = .returned (.bool true) ∧ Below w.heap.size w w' := by
  obtain ⟨a, rfl⟩ : ∃ a : Nat, x = (a : Int) := ⟨x.toNat, by omega⟩
  exact rows_walk l A n c a row w hn hr hc hm

theorem rows_contract (H : Type) (enc : TypeId × Value → H) (W : World) (base : Nat) (args : Array Value) (ds gs : List (DataW H)) (before : List MemPlace)
    (hval : ∀ (j : Nat) t v, Try.f3.params[j]? = some t → args[j]? = some v → Value.okWide Try.prog W .any base t v)
    (hW : DataW.Whole enc Try.prog Try.f3.params.toList Rows.internRowsSpec.vars false W args.toList ds gs before) :
    Calls Try.prog 3 args W fun e W' => ∃ v, e = .returned v ∧ Rows.internRowsSpec.post enc Try.prog Try.f3 false true false false W args v W' := by
  have hW' := hW
  have hlt : ∀ x ∈ before, x.block < W.heap.size := fun x hx => hW.lt x hx
  obtain ⟨p, q, hA0, hV, rfl, _, _⟩ := hW
  have hA : DataW.TrodAll enc Try.prog W 0 (fun _ => true) true Try.f3.params.toList args.toList ds p := hA0
  rw [Try.params3] at hA hval
  obtain ⟨v0, vs0, d0, ds0, p0, q0, hargs, rfl, rfl, h0, r0⟩ := trodAll_cons hA
  obtain ⟨v1, vs1, d1, ds1, p1, q1, rfl, rfl, rfl, h1, r1⟩ := trodAll_cons r0
  obtain ⟨v2, vs2, d2, ds2, p2, q2, rfl, rfl, rfl, h2, r2⟩ := trodAll_cons r1
  obtain ⟨rfl, rfl, rfl⟩ := trodAll_nil r2
  obtain rfl : args = #[v0, v1, v2] := by cases args; simp_all
  obtain ⟨rfl, rfl⟩ := trodVars_none hV
  clear hA0
  obtain ⟨A0, n0, c0, l0, rfl, hn0, hc0, hm0, hr0, ho0⟩ := open_rowsL (hval 0 22 v0 rfl rfl) h0 (fun x hx => hlt x (by simp [hx]))
  unfold maxLen at hm0
  obtain ⟨a1, rfl, rfl, rfl, wa1⟩ := open_int Try.underlying24 (hval 1 24 v1 rfl rfl) h1
  have bd1 := bounds_u16 wa1
  obtain ⟨a2, rfl, rfl, rfl, wa2⟩ := open_int Try.underlying3 (hval 2 3 v2 rfl rfl) h2
  have bd2 := bounds_i64 wa2
  refine (rows_int l0 A0 n0 c0 a1 bd1 a2 W hn0 hr0 hc0 (by omega)).mono fun e W' ⟨he, hb⟩ => ?_
  subst he
  exact ⟨_, rfl, law_post laid (by kernel_rfl) Try.underlying4 (by rw [Try.params3]; decide +kernel) rfl hW' ⟨rfl, rfl, rfl⟩ hb⟩

set_option maxRecDepth 100000 in
theorem rows_lifted (os : Os) (started : os.Started) (H : Type) (enc : TypeId × Value → H) :
    ReturnsInHanded {} Try.checked os 3 .any (Rows.internRowsSpec.pre6 enc Try.prog Try.f3 Rows.internRowsRow.domain false) (Rows.internRowsSpec.post enc Try.prog Try.f3 false true false false) := by
  refine returnsInHanded_of_change (C := Try.checked) own started (by kernel_rfl) Try.func3
    (ChangeSpec.witness6 (enc := enc) (C := Try.checked) false ⟨#[], #[.slice none 0 0, .int .u16 0, .int .i64 0], []⟩ 8 (by kernel_rfl) (by kernel_rfl) (by kernel_rfl) (by kernel_rfl)) ?_
  intro W base args ds gs before hval hW _ _
  exact rows_contract H enc W base args ds gs before hval hW

/-- InternRows is true for every input. -/
theorem rows_holds : Rows.InternRowsSaid :=
  OpenClaim.holds_of_wide 3 Try.f3 rfl rfl rfl rfl rfl rfl rfl ⟨rfl, rfl, rfl, rfl, rfl⟩ rfl rfl rfl rfl rfl (by kernel_rfl) Try.func3 (by kernel_rfl)
    (of_decide_eq_true (by kernel_rfl)) (by unfold Func.isWrapper; first | (rw [if_pos (by decide +kernel)]; kernel_rfl) | (rw [if_neg (by decide +kernel)]; exact ⟨rfl, rfl⟩))
    (fun os started H enc _ => rows_lifted os started H enc)
end Go.Proofs.Ytdecllllcoflbaa
