/-
  InternBack: whatever the rows and the bytes: what was laid is taken, and what is taken is laid so.
-/
import Derived.Test.YtdecllllcoflbaaLays
namespace Go.Proofs.Ytdecllllcoflbaa
open Go.ChangeShapes Go.WideShapes Go.ChangeAt Go.RowKit Intern

theorem takel_cons (l : List UInt8) (m : Nat) (h : l.length = (m + 1) * 2) : takel 2 l = le (l.take 2) :: takel 2 (l.drop 2) := by
  have e1 : l.length / 2 = m + 1 := by omega
  have e2 : (l.drop 2).length / 2 = m := by rw [List.length_drop]; omega
  unfold takel
  rw [e1, e2, List.range_succ_eq_map, List.map_cons, List.map_map]
  congr 1
  apply List.map_congr_left
  intro k _
  show le ((l.drop ((k + 1) * 2)).take 2) = _
  rw [List.drop_drop]
  congr 3
  omega
theorem layl_takel (m : Nat) : ∀ l : List UInt8, l.length = m * 2 → layl 2 (takel 2 l) = l := by
  induction m with
  | zero =>
    intro l h
    obtain rfl : l = [] := List.eq_nil_of_length_eq_zero (by omega)
    rfl
  | succ m ih =>
    intro l h
    rw [takel_cons l m h]
    show digs (le (l.take 2)) 2 ++ layl 2 (takel 2 (l.drop 2)) = l
    have h2 : (l.take 2).length = 2 := by rw [List.length_take]; omega
    have := digs_le (l.take 2)
    rw [h2] at this
    rw [this, ih _ (by rw [List.length_drop]; omega), List.take_append_drop]

theorem words_at {l : List Rw} {i : Nat} {r : Rw} (h : l[i]? = some r) : (words l)[2 * i]? = some r.lab ∧ (words l)[2 * i + 1]? = some r.refs.toNat := by
  induction l generalizing i with
  | nil => simp at h
  | cons s l ih =>
    cases i with
    | zero =>
      obtain rfl : s = r := by simpa using h
      exact ⟨rfl, rfl⟩
    | succ i =>
      obtain ⟨h1, h2⟩ := ih (i := i) (by simpa using h)
      have e1 : 2 * (i + 1) = 2 * i + 1 + 1 := by omega
      rw [e1]
      exact ⟨h1, h2⟩
theorem rowsOf_words {l : List Rw} (h : Right l) : rowsOf (words l) = l := by
  apply List.ext_getElem?
  intro i
  by_cases hi : i < 16
  · obtain ⟨r, hr⟩ : ∃ r, l[i]? = some r := ⟨_, List.getElem?_eq_getElem (by rw [h.len]; exact hi)⟩
    obtain ⟨h1, h2⟩ := words_at hr
    rw [rowsOf_at hi h1 h2, hr]
    have := fits_lo (h.fits i r hr)
    congr 1
    cases r
    simp only at this ⊢
    congr 1
    omega
  · rw [List.getElem?_eq_none (by rw [length_rowsOf]; omega), List.getElem?_eq_none (by rw [h.len]; omega)]
theorem words_rowsOf {ws : List Nat} (h : ws.length = 32) : words (rowsOf ws) = ws := by
  apply List.ext_getElem?
  intro j
  by_cases hj : j < 32
  · have h0 : ∃ a, ws[2 * (j / 2)]? = some a := ⟨_, List.getElem?_eq_getElem (by omega)⟩
    have h1 : ∃ a, ws[2 * (j / 2) + 1]? = some a := ⟨_, List.getElem?_eq_getElem (by omega)⟩
    obtain ⟨a, h0⟩ := h0
    obtain ⟨m, h1⟩ := h1
    have hr := rowsOf_at (j := j / 2) (by omega) h0 h1
    obtain ⟨k0, k1⟩ := words_at hr
    rcases Nat.mod_two_eq_zero_or_one j with e | e
    · have e2 : 2 * (j / 2) = j := by omega
      rw [e2] at k0 h0
      rw [k0, h0]
    · have e2 : 2 * (j / 2) + 1 = j := by omega
      rw [e2] at k1 h1
      rw [k1, h1]
      simp
  · rw [List.getElem?_eq_none (by rw [length_words, length_rowsOf]; omega), List.getElem?_eq_none (by omega)]
/-- What was laid is taken. -/
theorem take_lay {l : List Rw} (h : Right l) (ho : Oks l) : takR (bytesOf l) = ⟨l, 0, 0⟩ := by
  have hb : (bytesOf l).length = 64 := by rw [length_bytesOf, h.len]
  have e : rowsOf (takel 2 (bytesOf l)) = l := by
    unfold bytesOf
    rw [takel_layl 2 (by omega) _ fun x hx => by
      have := words_small h ho x hx
      simp only [fitB, decide_eq_true_eq]
      omega]
    exact rowsOf_words h
  rw [takR_yes hb (by rw [e]; exact h), e]
/-- What is taken is laid so. -/
theorem lay_take {bs : List UInt8} (h : bs.length = 64) : bytesOf (rowsOf (takel 2 bs)) = bs := by
  unfold bytesOf
  rw [words_rowsOf (by rw [length_takel, h])]
  exact layl_takel 32 bs h
theorem oks_take (bs : List UInt8) : Oks (rowsOf (takel 2 bs)) := by
  intro r hr
  obtain ⟨i, hi⟩ := List.mem_iff_getElem?.1 hr
  have hl : i < 16 := by
    have := (List.getElem?_eq_some_iff.1 hi).1
    rwa [length_rowsOf] at this
  have hsm : ∀ k, (takel 2 bs).getD k 0 < 65536 := fun k => by
    rw [List.getD_eq_getElem?_getD]
    cases hk : (takel 2 bs)[k]? with
    | none => simp
    | some x => simpa using takel_small bs x (List.mem_of_getElem? hk)
  simp only [rowsOf, List.getElem?_map, List.getElem?_range hl, Option.map_some, Option.some.injEq] at hi
  subst hi
  refine ⟨hsm _, ?_, ?_⟩
  · show -9223372036854775808 ≤ ((_ : Nat) : Int); omega
  · have := hsm (2 * i + 1)
    show ((_ : Nat) : Int) ≤ 9223372036854775807; omega

theorem Intern.HandsB.got {w w' : World} {bs : List UInt8} {err n : Nat} {e : Ending} (h : HandsB w bs err e w') (hn : bs.length = n) : ∃ A c, e = .returned (.tuple #[.slice A n c, .int .i64 (err : Int)]) ∧ n ≤ c ∧ Rd w' w'.heap.size A (bytesV bs) ∧ Below w.heap.size w w' := by
  subst hn
  obtain ⟨v, he, hown, hb⟩ := h
  obtain ⟨_, A, c, rfl, hc, _, hr⟩ := own_rd hown
  exact ⟨A, c, he, hc, hr, hb⟩

theorem lay_nil (A : Option Addr) (c : Nat) (w : World) : Calls Try.prog 20 #[.slice A 0 c] w fun e w' => HandsB w (layR []).1 (layR []).2 e w' := lay_rows [] A 0 c w rfl (.inl rfl) fun r hr => by cases hr
/-- What the two halves of the statement ask of Lay and Take. -/
structure Half1 (k : List Rw) (bs : List UInt8) : Prop where
  one : (Right k ∧ bs.length = 64 ∧ takR bs = ⟨k, 0, 0⟩ ∧ layR k = (bs, 0)) ∨ (¬ Right k ∧ bs = [] ∧ takR bs = .bad 100 ∧ layR k = (bs, 1))
theorem half1 {k : List Rw} (ho : Oks k) : Half1 k (layR k).1 := by
  by_cases hR : Right k
  · refine ⟨.inl ⟨hR, ?_, ?_, ?_⟩⟩
    · rw [layR_yes hR, length_bytesOf, hR.len]
    · rw [layR_yes hR]; exact take_lay hR ho
    · rw [layR_yes hR]
  · refine ⟨.inr ⟨hR, ?_, ?_, ?_⟩⟩
    · rw [layR_no hR]
    · rw [layR_no hR]; exact takR_len (by simp)
    · rw [layR_no hR]
structure Half2 (bs : List UInt8) (m : List Rw) : Prop where
  one : (takR bs = ⟨m, 0, 0⟩ ∧ m.length = 16 ∧ layR m = (bs, 0) ∧ Oks m) ∨ (takR bs = .bad 100 ∧ m = [])
theorem half2 (bs : List UInt8) : Half2 bs (takR bs).rows := by
  by_cases h : bs.length = 64
  · by_cases hR : Right (rowsOf (takel 2 bs))
    · refine ⟨.inl ⟨?_, ?_, ?_, ?_⟩⟩
      · rw [takR_yes h hR]
      · rw [takR_yes h hR]; exact hR.len
      · rw [takR_yes h hR, layR_yes hR, lay_take h]
      · rw [takR_yes h hR]; exact oks_take bs
    · exact ⟨.inr ⟨takR_no h hR, by rw [takR_no h hR]; rfl⟩⟩
  · exact ⟨.inr ⟨takR_len h, by rw [takR_len h]; rfl⟩⟩

set_option maxHeartbeats 1600000 in
set_option maxRecDepth 100000 in
theorem back_walk (l : List Rw) (A : Option Addr) (n c : Nat) (bs : List UInt8) (D : Option Addr) (m d : Nat) (w : World) (hn : l.length = n) (hr : Rd w w.heap.size A (rowsV l)) (hc : n ≤ c) (hm : n ≤ 9223372036854775807) (ho : Oks l)
    (hbn : bs.length = m) (hbr : Rd w w.heap.size D (bytesV bs)) (hd : m ≤ d) (hdm : m ≤ 9223372036854775807) :
    Calls Try.prog 6 #[.slice A n c, .slice D m d] w fun e w' => e = .returned (.bool true) ∧ Below w.heap.size w w' := by
  by_cases h1000 : 1000 < m
  · have h1 : (1000 : Int) < (m : Int) := by omega
    clear hn hr hbr hbn
    go_enter Try.func6, Try.ntmps6
    go_wp2_with (go_at_call 9; (with_reducible refine (shown_any _).mono ?_); rintro e w0 ⟨he, hb0⟩; obtain rfl := he; have HB0 := Lib.hid hb0; clear hb0)
    go_ret
    exact ⟨rfl, HB0.out⟩
  have h1 : ¬ ((1000 : Int) < (m : Int)) := by omega
  obtain ⟨q, hq⟩ : ∃ q, q = min n 20 := ⟨_, rfl⟩
  have hkq : (l.take 20).length = q := by rw [List.length_take, hn, hq]; omega
  have hr6 : Rd w w.heap.size A (rowsV (l.take 20)) := by rw [rowsV_take]; exact hr.take 40
  have ho6 : Oks (l.take 20) := fun r hr => ho r (List.mem_of_mem_take hr)
  have few := fun w => few_any A n c w hc hm
  rw [← hq] at few
  have Few := Lib.hid few
  generalize l.take 20 = k at hkq hr6 ho6
  have RD := Lib.hid (fun (w1 : World) (h1 : Below w.heap.size w w1) => (hr6.below h1).more h1.size)
  have BD := Lib.hid (fun (w1 : World) (h1 : Below w.heap.size w w1) => (hbr.below h1).more h1.size)
  have LAY := Lib.hid (fun (w1 : World) (h1 : Below w.heap.size w w1) => lay_rows k A q c w1 hkq (RD.out w1 h1) ho6)
  have RGT := Lib.hid (fun (w1 : World) (h1 : Below w.heap.size w w1) => right_all k A q c w1 hkq (RD.out w1 h1))
  have TK2 := Lib.hid (fun (w1 : World) (h1 : Below w.heap.size w w1) => take_any bs D m d w1 hbn (BD.out w1 h1) hd)
  have K1 := (half1 ho6).one
  have K2 := (half2 bs).one
  obtain ⟨ak, hak⟩ : ∃ ak, (layR k).1 = ak := ⟨_, rfl⟩
  obtain ⟨mb, hmb⟩ : ∃ mb, (takR bs).rows = mb := ⟨_, rfl⟩
  rw [hak] at K1
  rw [hmb] at K2
  have Hkq := Lib.hid hkq
  have Hbn := Lib.hid hbn
  have hqs : q ≤ 20 := by omega
  clear hn hr hc hm ho hq hkq hr6 ho6 few hbr hbn hak hmb h1000
  have HL0 : Hid (layR [] = ([], 1)) := Lib.hid (layR_no (l := []) fun h => by have := h.len; cases this)
  rcases K1 with ⟨hR, hal, htk, hly⟩ | ⟨hR, hal, htk, hly⟩
  · have HRB := Lib.hid (rightB_yes hR)
    have h16 := hR.len
    have hq16 : q = 16 := by rw [← Hkq.out]; exact h16
    subst hq16
    have HK16 := Lib.hid h16
    have HAL := Lib.hid hal
    have HTK := Lib.hid htk
    have HLY := Lib.hid hly
    clear hR htk hly hal h16
    rcases K2 with ⟨htb, hml, hlb, hmo⟩ | ⟨htb, hml⟩
    · have HTB := Lib.hid htb
      have HM16 := Lib.hid hml
      have HLB := Lib.hid hlb
      have HMO := Lib.hid hmo
      clear htb hml hlb hmo
      go_enter Try.func6, Try.ntmps6
      go_wp2_with (first
        | (go_at_call 9; (with_reducible refine (shown_any _).mono ?_); rintro e w0 ⟨he, hb0⟩; obtain rfl := he; have HB0 := Lib.hid hb0; clear hb0)
        | (go_at_call 10; (with_reducible refine (Few.out _).mono ?_); rintro e w' ⟨he, hw⟩; obtain rfl := he; subst hw)
        | (go_at_call 20; (with_reducible refine (LAY.out _ HB0.out).mono ?_); rintro e w1 h1'; rw [HLY.out] at h1'; obtain ⟨A1, d1, he, hd1, hr1, hb1⟩ := h1'.got HAL.out; obtain rfl := he; have HB1 := Lib.hid (HB0.out.trans (hb1.mono HB0.out.size)); have HR1 := Lib.hid hr1; clear hb1 hr1 h1')
        | (go_at_call 22; (with_reducible refine (take_any ak A1 64 d1 _ HAL.out HR1.out hd1).mono ?_); rintro e w2 h2'; obtain ⟨g2, c2, he, _, hr2, hb2⟩ := h2'.got HTK.out HK16.out; obtain rfl := he; have HB2 := Lib.hid (HB1.out.trans (hb2.mono HB1.out.size)); have HR2 := Lib.hid hr2; clear hb2 hr2 h2')
        | (go_at_call 17; (with_reducible refine (RGT.out _ HB2.out).mono ?_); rintro e w3 ⟨he, hb3⟩; obtain rfl := he; rw [HRB.out]; have HB3 := Lib.hid (HB2.out.trans (hb3.mono HB2.out.size)); have HR3 := Lib.hid ((HR2.out.below hb3).more hb3.size); clear hb3)
        | (go_at_call 19; (with_reducible refine (same_true k _ A 16 c2 c _ _ _ HK16.out HR3.out (RD.out _ HB3.out) (by decide)).mono ?_); rintro e w4 ⟨he, q4, hw4⟩; obtain rfl := he; have HB4 := Lib.hid (by subst hw4; exact below_drewN HB3.out q4 : Below w.heap.size w w4); clear hw4)
        | (go_at_call 22; (with_reducible refine (TK2.out _ HB4.out).mono ?_); rintro e w5 h5'; obtain ⟨g5, c5, he, _, hr5, hb5⟩ := h5'.got HTB.out HM16.out; obtain rfl := he; have HB5 := Lib.hid (HB4.out.trans (hb5.mono HB4.out.size)); have HR5 := Lib.hid hr5; clear hb5 hr5 h5')
        | (go_at_call 20; (with_reducible refine (lay_rows mb _ 16 c5 _ HM16.out HR5.out HMO.out).mono ?_); rintro e w6 h6'; rw [HLB.out] at h6'; obtain ⟨A6, d6, he, hd6, hr6, hb6⟩ := h6'.got Hbn.out; obtain rfl := he; have HB6 := Lib.hid (HB5.out.trans (hb6.mono HB5.out.size)); have s1 := str_of (c := d6) Hbn.out hr6; have s2 := str_of (c := d) Hbn.out (BD.out _ HB6.out); clear hb6 hr6 h6'))
      go_ret
      exact ⟨rfl, HB6.out⟩
    · have HTB := Lib.hid htb
      clear htb hml
      go_enter Try.func6, Try.ntmps6
      go_wp2_with (first
        | (go_at_call 9; (with_reducible refine (shown_any _).mono ?_); rintro e w0 ⟨he, hb0⟩; obtain rfl := he; have HB0 := Lib.hid hb0; clear hb0)
        | (go_at_call 10; (with_reducible refine (Few.out _).mono ?_); rintro e w' ⟨he, hw⟩; obtain rfl := he; subst hw)
        | (go_at_call 20; (with_reducible refine (LAY.out _ HB0.out).mono ?_); rintro e w1 h1'; rw [HLY.out] at h1'; obtain ⟨A1, d1, he, hd1, hr1, hb1⟩ := h1'.got HAL.out; obtain rfl := he; have HB1 := Lib.hid (HB0.out.trans (hb1.mono HB0.out.size)); have HR1 := Lib.hid hr1; clear hb1 hr1 h1')
        | (go_at_call 22; (with_reducible refine (take_any ak A1 64 d1 _ HAL.out HR1.out hd1).mono ?_); rintro e w2 h2'; obtain ⟨g2, c2, he, _, hr2, hb2⟩ := h2'.got HTK.out HK16.out; obtain rfl := he; have HB2 := Lib.hid (HB1.out.trans (hb2.mono HB1.out.size)); have HR2 := Lib.hid hr2; clear hb2 hr2 h2')
        | (go_at_call 17; (with_reducible refine (RGT.out _ HB2.out).mono ?_); rintro e w3 ⟨he, hb3⟩; obtain rfl := he; rw [HRB.out]; have HB3 := Lib.hid (HB2.out.trans (hb3.mono HB2.out.size)); have HR3 := Lib.hid ((HR2.out.below hb3).more hb3.size); clear hb3)
        | (go_at_call 19; (with_reducible refine (same_true k _ A 16 c2 c _ _ _ HK16.out HR3.out (RD.out _ HB3.out) (by decide)).mono ?_); rintro e w4 ⟨he, q4, hw4⟩; obtain rfl := he; have HB4 := Lib.hid (by subst hw4; exact below_drewN HB3.out q4 : Below w.heap.size w w4); clear hw4)
        | (go_at_call 22; (with_reducible refine (TK2.out _ HB4.out).mono ?_); rintro e w5 h5'; obtain ⟨A5, c5, he, hb5⟩ := h5'.nil HTB.out; obtain rfl := he; have HB5 := Lib.hid (HB4.out.trans (hb5.mono HB4.out.size)); clear hb5 h5')
        | (go_at_call 20; (with_reducible refine (lay_nil A5 c5 _).mono ?_); rintro e w6 h6'; rw [HL0.out] at h6'; obtain ⟨A6, d6, he, hd6, hr6, hb6⟩ := h6'.got (n := 0) rfl; obtain rfl := he; have HB6 := Lib.hid (HB5.out.trans (hb6.mono HB5.out.size)); clear hb6 hr6 h6'))
      go_ret
      exact ⟨rfl, HB6.out⟩
  · have HRB := Lib.hid (rightB_no hR)
    subst hal
    have HTK := Lib.hid htk
    have HLY := Lib.hid hly
    clear hR htk hly
    rcases K2 with ⟨htb, hml, hlb, hmo⟩ | ⟨htb, hml⟩
    · have HTB := Lib.hid htb
      have HM16 := Lib.hid hml
      have HLB := Lib.hid hlb
      have HMO := Lib.hid hmo
      clear htb hml hlb hmo
      go_enter Try.func6, Try.ntmps6
      go_wp2_with (first
        | (go_at_call 9; (with_reducible refine (shown_any _).mono ?_); rintro e w0 ⟨he, hb0⟩; obtain rfl := he; have HB0 := Lib.hid hb0; clear hb0)
        | (go_at_call 10; (with_reducible refine (Few.out _).mono ?_); rintro e w' ⟨he, hw⟩; obtain rfl := he; subst hw)
        | (go_at_call 20; (with_reducible refine (LAY.out _ HB0.out).mono ?_); rintro e w1 h1'; rw [HLY.out] at h1'; obtain ⟨A1, d1, he, hd1, hr1, hb1⟩ := h1'.got (n := 0) rfl; obtain rfl := he; have HB1 := Lib.hid (HB0.out.trans (hb1.mono HB0.out.size)); have HR1 := Lib.hid hr1; clear hb1 hr1 h1')
        | (go_at_call 22; (with_reducible refine (take_any [] A1 0 d1 _ rfl HR1.out hd1).mono ?_); rintro e w2 h2'; obtain ⟨A2, c2, he, hb2⟩ := h2'.nil HTK.out; obtain rfl := he; have HB2 := Lib.hid (HB1.out.trans (hb2.mono HB1.out.size)); clear hb2 h2')
        | (go_at_call 17; (with_reducible refine (RGT.out _ HB2.out).mono ?_); rintro e w3 ⟨he, hb3⟩; obtain rfl := he; rw [HRB.out]; have HB3 := Lib.hid (HB2.out.trans (hb3.mono HB2.out.size)); clear hb3)
        | (go_at_call 22; (with_reducible refine (TK2.out _ HB3.out).mono ?_); rintro e w5 h5'; obtain ⟨g5, c5, he, _, hr5, hb5⟩ := h5'.got HTB.out HM16.out; obtain rfl := he; have HB5 := Lib.hid (HB3.out.trans (hb5.mono HB3.out.size)); have HR5 := Lib.hid hr5; clear hb5 hr5 h5')
        | (go_at_call 20; (with_reducible refine (lay_rows mb _ 16 c5 _ HM16.out HR5.out HMO.out).mono ?_); rintro e w6 h6'; rw [HLB.out] at h6'; obtain ⟨A6, d6, he, hd6, hr6, hb6⟩ := h6'.got Hbn.out; obtain rfl := he; have HB6 := Lib.hid (HB5.out.trans (hb6.mono HB5.out.size)); have s1 := str_of (c := d6) Hbn.out hr6; have s2 := str_of (c := d) Hbn.out (BD.out _ HB6.out); clear hb6 hr6 h6'))
      go_ret
      exact ⟨rfl, HB6.out⟩
    · have HTB := Lib.hid htb
      clear htb hml
      go_enter Try.func6, Try.ntmps6
      go_wp2_with (first
        | (go_at_call 9; (with_reducible refine (shown_any _).mono ?_); rintro e w0 ⟨he, hb0⟩; obtain rfl := he; have HB0 := Lib.hid hb0; clear hb0)
        | (go_at_call 10; (with_reducible refine (Few.out _).mono ?_); rintro e w' ⟨he, hw⟩; obtain rfl := he; subst hw)
        | (go_at_call 20; (with_reducible refine (LAY.out _ HB0.out).mono ?_); rintro e w1 h1'; rw [HLY.out] at h1'; obtain ⟨A1, d1, he, hd1, hr1, hb1⟩ := h1'.got (n := 0) rfl; obtain rfl := he; have HB1 := Lib.hid (HB0.out.trans (hb1.mono HB0.out.size)); have HR1 := Lib.hid hr1; clear hb1 hr1 h1')
        | (go_at_call 22; (with_reducible refine (take_any [] A1 0 d1 _ rfl HR1.out hd1).mono ?_); rintro e w2 h2'; obtain ⟨A2, c2, he, hb2⟩ := h2'.nil HTK.out; obtain rfl := he; have HB2 := Lib.hid (HB1.out.trans (hb2.mono HB1.out.size)); clear hb2 h2')
        | (go_at_call 17; (with_reducible refine (RGT.out _ HB2.out).mono ?_); rintro e w3 ⟨he, hb3⟩; obtain rfl := he; rw [HRB.out]; have HB3 := Lib.hid (HB2.out.trans (hb3.mono HB2.out.size)); clear hb3)
        | (go_at_call 22; (with_reducible refine (TK2.out _ HB3.out).mono ?_); rintro e w5 h5'; obtain ⟨A5, c5, he, hb5⟩ := h5'.nil HTB.out; obtain rfl := he; have HB5 := Lib.hid (HB3.out.trans (hb5.mono HB3.out.size)); clear hb5 h5')
        | (go_at_call 20; (with_reducible refine (lay_nil A5 c5 _).mono ?_); rintro e w6 h6'; rw [HL0.out] at h6'; obtain ⟨A6, d6, he, hd6, hr6, hb6⟩ := h6'.got (n := 0) rfl; obtain rfl := he; have HB6 := Lib.hid (HB5.out.trans (hb6.mono HB5.out.size)); clear hb6 hr6 h6'))
      go_ret
      exact ⟨rfl, HB6.out⟩

theorem back_contract (H : Type) (enc : TypeId × Value → H) (W : World) (base : Nat) (args : Array Value) (ds gs : List (DataW H)) (before : List MemPlace)
    (hval : ∀ (j : Nat) t v, Try.f6.params[j]? = some t → args[j]? = some v → Value.okWide Try.prog W .any base t v)
    (hW : DataW.Whole enc Try.prog Try.f6.params.toList Rows.internBackSpec.vars false W args.toList ds gs before) :
    Calls Try.prog 6 args W fun e W' => ∃ v, e = .returned v ∧ Rows.internBackSpec.post enc Try.prog Try.f6 false true false false W args v W' := by
  have hW' := hW
  have hlt : ∀ x ∈ before, x.block < W.heap.size := fun x hx => hW.lt x hx
  obtain ⟨p, q, hA0, hV, rfl, _, _⟩ := hW
  have hA : DataW.TrodAll enc Try.prog W 0 (fun _ => true) true Try.f6.params.toList args.toList ds p := hA0
  rw [Try.params6] at hA hval
  obtain ⟨v0, vs0, d0, ds0, p0, q0, hargs, rfl, rfl, h0, r0⟩ := trodAll_cons hA
  obtain ⟨v1, vs1, d1, ds1, p1, q1, rfl, rfl, rfl, h1, r1⟩ := trodAll_cons r0
  obtain ⟨rfl, rfl, rfl⟩ := trodAll_nil r1
  obtain rfl : args = #[v0, v1] := by cases args; simp_all
  obtain ⟨rfl, rfl⟩ := trodVars_none hV
  clear hA0
  obtain ⟨A0, n0, c0, l0, rfl, hn0, hc0, hm0, hr0, ho0⟩ := open_rowsL (hval 0 22 v0 rfl rfl) h0 (fun x hx => hlt x (by simp [hx]))
  unfold maxLen at hm0
  obtain ⟨A1, n1, c1, l1, rfl, hn1, hc1, hm1, hr1⟩ := open_bytesL Try.underlying39 Try.underlying5 cells5 (hval 1 39 v1 rfl rfl) h1 (fun x hx => hlt x (by simp [hx]))
  unfold maxLen at hm1
  refine (back_walk l0 A0 n0 c0 l1 A1 n1 c1 W hn0 hr0 hc0 (by omega) ho0 hn1 hr1 hc1 (by omega)).mono fun e W' ⟨he, hb⟩ => ?_
  subst he
  exact ⟨_, rfl, law_post laid (by kernel_rfl) Try.underlying4 (by rw [Try.params6]; decide +kernel) rfl hW' ⟨rfl, rfl, rfl⟩ hb⟩

set_option maxRecDepth 100000 in
theorem back_lifted (os : Os) (started : os.Started) (H : Type) (enc : TypeId × Value → H) :
    ReturnsInHanded {} Try.checked os 6 .any (Rows.internBackSpec.pre6 enc Try.prog Try.f6 Rows.internBackRow.domain false) (Rows.internBackSpec.post enc Try.prog Try.f6 false true false false) := by
  refine returnsInHanded_of_change (C := Try.checked) own started (by kernel_rfl) Try.func6
    (ChangeSpec.witness6 (enc := enc) (C := Try.checked) false ⟨#[], #[.slice none 0 0, .slice none 0 0], []⟩ 8 (by kernel_rfl) (by kernel_rfl) (by kernel_rfl) (by kernel_rfl)) ?_
  intro W base args ds gs before hval hW _ _
  exact back_contract H enc W base args ds gs before hval hW

/-- InternBack is true for every input. -/
theorem back_holds : Rows.InternBackSaid :=
  OpenClaim.holds_of_wide 6 Try.f6 rfl rfl rfl rfl rfl rfl rfl ⟨rfl, rfl, rfl, rfl, rfl⟩ rfl rfl rfl rfl rfl (by kernel_rfl) Try.func6 (by kernel_rfl)
    (of_decide_eq_true (by kernel_rfl)) (by unfold Func.isWrapper; first | (rw [if_pos (by decide +kernel)]; kernel_rfl) | (rw [if_neg (by decide +kernel)]; exact ⟨rfl, rfl⟩))
    (fun os started H enc _ => back_lifted os started H enc)
end Go.Proofs.Ytdecllllcoflbaa
