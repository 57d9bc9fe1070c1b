/-
  Under: package path's and the document's; and the lists of texts that are the same.
-/
import Derived.Test.YthpppkkagepomaaPathX4
namespace Go.Proofs.Ythpppkkagepomaa.Path
open Go.RowKit Go.Proofs.Ythpppkkagepomaa.Entry

theorem map_str_inj {l m : List (List UInt8)} : (l.map fun d => (⟨d.toArray⟩ : ByteArray)) = (m.map fun d => (⟨d.toArray⟩ : ByteArray)) ↔ l = m := by
  constructor
  · intro h
    refine (List.map_inj_right fun a b hab => ?_).1 h
    have := congrArg (fun x : ByteArray => x.data.toList) hab
    simpa using this
  · rintro rfl
    rfl
theorem str_at {w : World} {B b o : Nat} {l : List (List UInt8)} (h : Rd w B (some ⟨b, o, none⟩) (strsV l)) (j : Nat) (hj : j < (l.map fun d => (⟨d.toArray⟩ : ByteArray)).length) : w.cell? ⟨b, o + j, none⟩ = some (.string ((l.map fun d => (⟨d.toArray⟩ : ByteArray)).getD j ByteArray.empty)) := by
  rw [List.length_map] at hj
  have := rd_str h (List.getElem?_eq_getElem hj)
  rw [this]
  simp [strV, List.getD_eq_getElem?_getD, hj]
/-- slices.Equal, of two lists of as many texts. -/
theorem equal_any (l m : List (List UInt8)) (A1 A2 : Option Addr) (n c d B1 B2 : Nat) (w : World) (hn : l.length = n) (hm : m.length = n) (h1 : Rd w B1 A1 (strsV l)) (h2 : Rd w B2 A2 (strsV m)) (hb : n ≤ 1000000) :
    Calls Try.prog 27 #[.slice A1 n c, .slice A2 n d] w fun e w' => e = .returned (.bool (l == m)) ∧ ∃ q, w' = w.drewN q := by
  by_cases h0 : n = 0
  · subst h0
    obtain rfl : l = [] := List.eq_nil_of_length_eq_zero hn
    obtain rfl : m = [] := List.eq_nil_of_length_eq_zero hm
    exact (Any.slices_Equal_string_empty Try.lays193 A1 A2 c 0 d w (by omega)).mono fun e w' ⟨he, hw⟩ => ⟨he, 0, hw⟩
  · obtain ⟨b1, o1, rfl, _⟩ := rd_strs h1 (by omega)
    obtain ⟨b2, o2, rfl, _⟩ := rd_strs h2 (by omega)
    have h := Any.slices_Equal_string Try.lays193 b1 o1 n c b2 o2 n d (l.map fun d => (⟨d.toArray⟩ : ByteArray)) (m.map fun d => (⟨d.toArray⟩ : ByteArray)) w (by rw [List.length_map, hn]; exact Nat.le_refl _) (by rw [List.length_map, hm]; exact Nat.le_refl _) (by omega) (by omega) (str_at h1) (str_at h2)
    refine h.mono fun e w' ⟨he, hw⟩ => ⟨?_, hw⟩
    rw [he]
    refine ret_bool ?_
    rw [List.take_of_length_le (by rw [List.length_map, hn]; exact Nat.le_refl _), List.take_of_length_le (by rw [List.length_map, hm]; exact Nat.le_refl _), Bool.eq_iff_iff, decide_eq_true_iff, beq_iff_eq]
    exact map_str_inj

theorem under_no1 {s t : List UInt8} (h : parP s = none) : underP s t = false := by
  unfold underP
  rw [h]
theorem under_no2 {s t : List UInt8} (h : parP t = none) : underP s t = false := by
  unfold underP
  rw [h]
  cases parP s <;> rfl
theorem under_len {s t : List UInt8} {l m : List (List UInt8)} (hs : parP s = some l) (ht : parP t = some m) (h : l.length < m.length) : underP s t = false := by
  cases hu : underP s t with
  | false => rfl
  | true =>
    have := ((under_iff hs ht).1 hu).length_le
    omega
theorem under_eq {s t : List UInt8} {l m : List (List UInt8)} (hs : parP s = some l) (ht : parP t = some m) : underP s t = (l.take m.length == m) := by
  rw [Bool.eq_iff_iff, under_iff hs ht, beq_iff_eq, List.prefix_iff_eq_take]
  exact eq_comm
theorem par_len {s : List UInt8} {l : List (List UInt8)} (h : parP s = some l) : l.length ≤ 16 := (parP_some h).1.len
theorem hands_pairs {w w' : World} {s : List UInt8} {e : Ending} (h : HandsP w (parseP s) e w') : ∃ A c, e = .returned (.tuple #[.slice A (parseP s).1.length c, .int .i64 ((parseP s).2 : Int)]) ∧ (parseP s).1.length ≤ c ∧ Rd w' w'.heap.size A (strsV (parseP s).1) ∧ Below w.heap.size w w' := hands_pair h

set_option maxHeartbeats 800000 in
theorem under_any (s t : ByteArray) (w : World) (hs : s.size ≤ 9223372036854775807) (ht : t.size ≤ 9223372036854775807) :
    Calls Try.prog 19 #[.string s, .string t] w fun e w' => e = .returned (.bool (underP s.data.toList t.data.toList)) ∧ Below w.heap.size w w' := by
  have HP := Lib.hid (fun u => parse_any s u hs)
  have HQ := Lib.hid (fun u => parse_any t u ht)
  cases hp : parP s.data.toList with
  | none =>
    rw [parse_none hp] at HP
    rw [under_no1 hp]
    generalize parseP t.data.toList = r at *
    obtain ⟨m, k⟩ := r
    clear hp
    go_enter Try.func19, Try.ntmps19
    go_wp2_with (first
      | (go_at_call 9; (with_reducible refine (HP.out _).mono ?_); rintro e w1 h1; obtain ⟨A1, c1, he, -, -, hb1⟩ := hands_pair h1; obtain rfl := he; have HB1 := Lib.hid hb1; clear h1 hb1)
      | (go_at_call 9; (with_reducible refine (HQ.out _).mono ?_); rintro e w2 h2; obtain ⟨A2, c2, he, -, -, hb2⟩ := hands_pair h2; obtain rfl := he; have HB2 := Lib.hid (HB1.out.trans (hb2.mono HB1.out.size)); clear h2 hb2))
    go_ret
    exact ⟨rfl, HB2.out⟩
  | some l =>
    rw [parse_some hp] at HP
    cases hq : parP t.data.toList with
    | none =>
      rw [parse_none hq] at HQ
      rw [under_no2 hq]
      clear hp hq
      go_enter Try.func19, Try.ntmps19
      go_wp2_with (first
        | (go_at_call 9; (with_reducible refine (HP.out _).mono ?_); rintro e w1 h1; obtain ⟨A1, c1, he, -, -, hb1⟩ := hands_pair h1; obtain rfl := he; have HB1 := Lib.hid hb1; clear h1 hb1)
        | (go_at_call 9; (with_reducible refine (HQ.out _).mono ?_); rintro e w2 h2; obtain ⟨A2, c2, he, -, -, hb2⟩ := hands_pair h2; obtain rfl := he; have HB2 := Lib.hid (HB1.out.trans (hb2.mono HB1.out.size)); clear h2 hb2))
      go_ret
      exact ⟨rfl, HB2.out⟩
    | some m =>
      rw [parse_some hq] at HQ
      have hl := par_len hp
      have hm := par_len hq
      by_cases hlt : l.length < m.length
      · rw [under_len hp hq hlt]
        have hli : (l.length : Int) < (m.length : Int) := by omega
        clear hp hq
        go_enter Try.func19, Try.ntmps19
        go_wp2_with (first
          | (go_at_call 9; (with_reducible refine (HP.out _).mono ?_); rintro e w1 h1; obtain ⟨A1, c1, he, -, -, hb1⟩ := hands_pair h1; obtain rfl := he; have HB1 := Lib.hid hb1; clear h1 hb1)
          | (go_at_call 9; (with_reducible refine (HQ.out _).mono ?_); rintro e w2 h2; obtain ⟨A2, c2, he, -, -, hb2⟩ := hands_pair h2; obtain rfl := he; have HB2 := Lib.hid (HB1.out.trans (hb2.mono HB1.out.size)); clear h2 hb2))
        go_ret
        exact ⟨rfl, HB2.out⟩
      · have hu := under_eq hp hq
        rw [hu]
        have hli : ¬ (l.length : Int) < (m.length : Int) := by omega
        obtain ⟨q, hqe⟩ : ∃ q, m.length = q := ⟨_, rfl⟩
        have Hq := Lib.hid hqe
        have hlt2 : (l.take q).length = q := by rw [List.length_take]; omega
        have HL := Lib.hid hlt2
        rw [hqe] at hlt hli ⊢
        obtain ⟨p, hpe⟩ : ∃ p, l.length = p := ⟨_, rfl⟩
        have Hp := Lib.hid hpe
        rw [hpe] at hlt hli
        have hqp : q ≤ p := by omega
        clear hp hq hu hlt2 hqe hpe hl hlt
        go_enter Try.func19, Try.ntmps19
        go_wp2_with (first
          | (go_at_call 9; (with_reducible refine (HP.out _).mono ?_); rintro e w1 h1; obtain ⟨A1, c1, he, hc1, hr1, hb1⟩ := hands_pair h1; obtain rfl := he; rw [Hp.out] at hc1 ⊢; have HB1 := Lib.hid hb1; have HR1 := Lib.hid hr1; have hqc : q ≤ c1 := Nat.le_trans hqp hc1; clear h1 hb1 hr1 hc1)
          | (go_at_call 9; (with_reducible refine (HQ.out _).mono ?_); rintro e w2 h2; obtain ⟨A2, c2, he, -, hr2, hb2⟩ := hands_pair h2; obtain rfl := he; rw [Hq.out]; have HB2 := Lib.hid (HB1.out.trans (hb2.mono HB1.out.size)); have HR12 := Lib.hid (HR1.out.below hb2); have HR2 := Lib.hid hr2; clear h2 hb2 hr2)
          | (go_at_call 27; (with_reducible refine (equal_any (l.take q) m A1 A2 q c1 c2 _ _ _ HL.out Hq.out (by rw [strsV_take]; exact HR12.out.take q) HR2.out (by have := Hq.out; omega)).mono ?_); rintro e w3 ⟨he, q3, hw3⟩; obtain rfl := he; have HB3 := Lib.hid (show Below w.heap.size w w3 by rw [hw3]; exact below_drewN HB2.out q3); clear hw3))
        go_ret
        exact ⟨rfl, HB3.out⟩
set_option maxHeartbeats 800000 in
theorem runder_any (s t : ByteArray) (w : World) (hs : s.size ≤ 500000) (ht : t.size ≤ 500000) :
    Calls Try.prog 20 #[.string s, .string t] w fun e w' => e = .returned (.bool (underP s.data.toList t.data.toList)) ∧ Below w.heap.size w w' := by
  have HP := Lib.hid (fun u => rparse_any s u hs)
  have HQ := Lib.hid (fun u => rparse_any t u ht)
  cases hp : parP s.data.toList with
  | none =>
    rw [parse_none hp] at HP
    rw [under_no1 hp]
    generalize parseP t.data.toList = r at *
    obtain ⟨m, k⟩ := r
    clear hp
    go_enter Try.func20, Try.ntmps20
    go_wp2_with (first
      | (go_at_call 11; (with_reducible refine (HP.out _).mono ?_); rintro e w1 h1; obtain ⟨A1, c1, he, -, -, hb1⟩ := hands_pair h1; obtain rfl := he; have HB1 := Lib.hid hb1; clear h1 hb1)
      | (go_at_call 11; (with_reducible refine (HQ.out _).mono ?_); rintro e w2 h2; obtain ⟨A2, c2, he, -, -, hb2⟩ := hands_pair h2; obtain rfl := he; have HB2 := Lib.hid (HB1.out.trans (hb2.mono HB1.out.size)); clear h2 hb2))
    go_ret
    exact ⟨rfl, HB2.out⟩
  | some l =>
    rw [parse_some hp] at HP
    cases hq : parP t.data.toList with
    | none =>
      rw [parse_none hq] at HQ
      rw [under_no2 hq]
      clear hp hq
      go_enter Try.func20, Try.ntmps20
      go_wp2_with (first
        | (go_at_call 11; (with_reducible refine (HP.out _).mono ?_); rintro e w1 h1; obtain ⟨A1, c1, he, -, -, hb1⟩ := hands_pair h1; obtain rfl := he; have HB1 := Lib.hid hb1; clear h1 hb1)
        | (go_at_call 11; (with_reducible refine (HQ.out _).mono ?_); rintro e w2 h2; obtain ⟨A2, c2, he, -, -, hb2⟩ := hands_pair h2; obtain rfl := he; have HB2 := Lib.hid (HB1.out.trans (hb2.mono HB1.out.size)); clear h2 hb2))
      go_ret
      exact ⟨rfl, HB2.out⟩
    | some m =>
      rw [parse_some hq] at HQ
      have hl := par_len hp
      have hm := par_len hq
      by_cases hlt : l.length < m.length
      · rw [under_len hp hq hlt]
        have hli : (l.length : Int) < (m.length : Int) := by omega
        clear hp hq
        go_enter Try.func20, Try.ntmps20
        go_wp2_with (first
          | (go_at_call 11; (with_reducible refine (HP.out _).mono ?_); rintro e w1 h1; obtain ⟨A1, c1, he, -, -, hb1⟩ := hands_pair h1; obtain rfl := he; have HB1 := Lib.hid hb1; clear h1 hb1)
          | (go_at_call 11; (with_reducible refine (HQ.out _).mono ?_); rintro e w2 h2; obtain ⟨A2, c2, he, -, -, hb2⟩ := hands_pair h2; obtain rfl := he; have HB2 := Lib.hid (HB1.out.trans (hb2.mono HB1.out.size)); clear h2 hb2))
        go_ret
        exact ⟨rfl, HB2.out⟩
      · have hu := under_eq hp hq
        rw [hu]
        have hli : ¬ (l.length : Int) < (m.length : Int) := by omega
        obtain ⟨q, hqe⟩ : ∃ q, m.length = q := ⟨_, rfl⟩
        have Hq := Lib.hid hqe
        have hlt2 : (l.take q).length = q := by rw [List.length_take]; omega
        have HL := Lib.hid hlt2
        rw [hqe] at hlt hli ⊢
        obtain ⟨p, hpe⟩ : ∃ p, l.length = p := ⟨_, rfl⟩
        have Hp := Lib.hid hpe
        rw [hpe] at hlt hli
        have hqp : q ≤ p := by omega
        clear hp hq hu hlt2 hqe hpe hl hlt
        go_enter Try.func20, Try.ntmps20
        go_wp2_with (first
          | (go_at_call 11; (with_reducible refine (HP.out _).mono ?_); rintro e w1 h1; obtain ⟨A1, c1, he, hc1, hr1, hb1⟩ := hands_pair h1; obtain rfl := he; rw [Hp.out] at hc1 ⊢; have HB1 := Lib.hid hb1; have HR1 := Lib.hid hr1; have hqc : q ≤ c1 := Nat.le_trans hqp hc1; clear h1 hb1 hr1 hc1)
          | (go_at_call 11; (with_reducible refine (HQ.out _).mono ?_); rintro e w2 h2; obtain ⟨A2, c2, he, -, hr2, hb2⟩ := hands_pair h2; obtain rfl := he; rw [Hq.out]; have HB2 := Lib.hid (HB1.out.trans (hb2.mono HB1.out.size)); have HR12 := Lib.hid (HR1.out.below hb2); have HR2 := Lib.hid hr2; clear h2 hb2 hr2))
        have HLT0 : Hid ((l.take 0) = m.take 0) := Lib.hid (by simp)
        by_cases hq0 : 0 < q
        · obtain ⟨b1, o1, rfl, hb1⟩ := rd_strs HR12.out (by rw [Hp.out]; omega)
          obtain ⟨b2, o2, rfl, hb2⟩ := rd_strs HR2.out (by rw [Hq.out]; omega)
          clear hb1 hb2
          go_loopw [9] (fun k wr => ∃ i : Nat, k = .int .i64 (i : Int) ∧ i ≤ q ∧ Hid (l.take i = m.take i) ∧ Rd wr w1.heap.size (some ⟨b1, o1, none⟩) (strsV l) ∧ Rd wr w2.heap.size (some ⟨b2, o2, none⟩) (strsV m) ∧ Below w.heap.size w wr) (fun k _ => q - (intOf k).toNat)
          case atStart => exact ⟨0, rfl, Nat.zero_le _, HLT0, HR12.out, HR2.out, HB2.out⟩
          case round =>
            obtain ⟨i, rfl, hi, HE, hr1, hr2, hb⟩ := hrel
            have HR1 := Lib.hid hr1
            have HR3 := Lib.hid hr2
            have HB := Lib.hid hb
            clear hr1 hr2 hb
            by_cases hlt : i < q
            · have hlti : (i : Int) < (q : Int) := by omega
              have hltp : (i : Int) < (p : Int) := by omega
              have hq16 : q ≤ 16 := by rw [← Hq.out]; exact hm
              have hiw : IntKind.i64.wrap ((i : Int) + 1) = ((i + 1 : Nat) : Int) := by rw [IntKind.wrap_i64]; omega
              have hi0 : (0 : Int) ≤ (i : Int) := by omega
              obtain ⟨x, hx⟩ : ∃ x, l[i]? = some x := ⟨_, List.getElem?_eq_getElem (by rw [Hp.out]; omega)⟩
              obtain ⟨y, hy⟩ : ∃ y, m[i]? = some y := ⟨_, List.getElem?_eq_getElem (by rw [Hq.out]; omega)⟩
              have hcx := rd_str HR1.out hx
              have hcy := rd_str HR3.out hy
              unfold strV at hcx hcy
              have ixy : ((⟨x.toArray⟩ : ByteArray).toList == (⟨y.toArray⟩ : ByteArray).toList) = (x == y) := by rw [ByteArray.toList_eq, ByteArray.toList_eq, str_data, str_data]
              have HX := Lib.hid hx
              have HY := Lib.hid hy
              generalize (⟨x.toArray⟩ : ByteArray) = X at *
              generalize (⟨y.toArray⟩ : ByteArray) = Y at *
              clear hx hy
              cases hxy : (x == y)
              · have HF : Hid ((l.take q == m) = false) := Lib.hid (by
                  cases h : (l.take q == m) with
                  | false => rfl
                  | true =>
                    have h : l.take q = m := by simpa using h
                    have h1 := HY.out
                    rw [← h, List.getElem?_take_of_lt hlt, HX.out] at h1
                    injection h1 with h1
                    rw [h1] at hxy
                    simp at hxy)
                rw [hxy] at ixy
                clear hxy
                go_wp2_with fail
                go_quiet (fail)
                go_wp2
                go_ret
                exact ⟨ret_bool HF.out.symm, below_drewN HB.out _⟩
              · have HE2 : Hid (l.take (i + 1) = m.take (i + 1)) := Lib.hid (by
                  have h : x = y := by simpa using hxy
                  rw [List.take_add_one, List.take_add_one, HE.out, HX.out, HY.out, h])
                rw [hxy] at ixy
                clear hxy
                go_wp2_with fail
                go_quiet (fail)
                go_wp2
                have HR7 := Lib.hid (show Rd (wr.drewN nq) w1.heap.size (some ⟨b1, o1, none⟩) (strsV l) from HR1.out)
                have HR8 := Lib.hid (show Rd (wr.drewN nq) w2.heap.size (some ⟨b2, o2, none⟩) (strsV m) from HR3.out)
                have HB7 := Lib.hid (below_drewN HB.out nq)
                go_roundw
                case rel => exact ⟨i + 1, by first | rfl | (congr 1), hlt, HE2, HR7.out, HR8.out, HB7.out⟩
                case measure => simp [intOf]; omega
            · obtain rfl : i = q := by omega
              have HT : Hid ((l.take i == m) = true) := Lib.hid (by rw [HE.out, List.take_of_length_le (by rw [Hq.out]; exact Nat.le_refl _)]; simp)
              go_wp2
              go_ret
              exact ⟨ret_bool HT.out.symm, HB.out⟩
        · obtain rfl : q = 0 := by omega
          have HT : Hid ((l.take 0 == m) = true) := Lib.hid (by
            have : m = [] := List.eq_nil_of_length_eq_zero Hq.out
            rw [this]; simp)
          go_loopw [9] (fun k wr => k = .int .i64 0 ∧ wr = w2) (fun _ _ => 0)
          case atStart => exact ⟨rfl, rfl⟩
          case round =>
            obtain ⟨rfl, rfl⟩ := hrel
            go_wp2
            go_ret
            exact ⟨ret_bool HT.out.symm, HB2.out⟩

set_option maxHeartbeats 800000 in
/-- A list and itself, in two places. -/
theorem same_any (l : List (List UInt8)) (A1 A2 : Option Addr) (n c d : Nat) (w : World) (hn : l.length = n) (h1 : Rd w w.heap.size A1 (strsV l)) (h2 : Rd w w.heap.size A2 (strsV l)) (hl : n ≤ 1000000) :
    Calls Try.prog 15 #[.slice A1 n c, .slice A2 n d] w fun e w' => e = .returned (.bool true) ∧ Below w.heap.size w w' := by
  subst hn
  have H1 := Lib.hid h1
  have H2 := Lib.hid h2
  clear h1 h2
  by_cases hE : 0 < l.length
  · obtain ⟨b1, o1, rfl, -⟩ := rd_strs H1.out hE
    obtain ⟨b2, o2, rfl, -⟩ := rd_strs H2.out hE
    go_enter Try.func15, Try.ntmps15
    go_wp2
    go_loopw [5] (fun k wr => ∃ i : Nat, k = .int .i64 (i : Int) ∧ i ≤ l.length ∧ Rd wr w.heap.size (some ⟨b1, o1, none⟩) (strsV l) ∧ Rd wr w.heap.size (some ⟨b2, o2, none⟩) (strsV l) ∧ Below w.heap.size w wr) (fun k _ => l.length - (intOf k).toNat)
    case atStart => exact ⟨0, rfl, Nat.zero_le _, H1.out, H2.out, Below.refl _ _⟩
    case round =>
      obtain ⟨i, rfl, hi, hr1, hr2, hb⟩ := hrel
      have HR1 := Lib.hid hr1
      have HR2 := Lib.hid hr2
      have HB := Lib.hid hb
      clear hr1 hr2 hb
      by_cases hlt : i < l.length
      · have hlti : (i : Int) < (l.length : Int) := by omega
        have hi0 : (0 : Int) ≤ (i : Int) := by omega
        have hiw : IntKind.i64.wrap ((i : Int) + 1) = ((i + 1 : Nat) : Int) := by rw [IntKind.wrap_i64]; omega
        obtain ⟨x, hx⟩ : ∃ x, l[i]? = some x := ⟨_, List.getElem?_eq_getElem hlt⟩
        have hcx := rd_str HR1.out hx
        have hcy := rd_str HR2.out hx
        unfold strV at hcx hcy
        generalize (⟨x.toArray⟩ : ByteArray) = X at *
        clear hx
        go_wp2_with fail
        go_quiet (fail)
        go_wp2
        have HR7 := Lib.hid (show Rd (wr.drewN nq) w.heap.size (some ⟨b1, o1, none⟩) (strsV l) from HR1.out)
        have HR8 := Lib.hid (show Rd (wr.drewN nq) w.heap.size (some ⟨b2, o2, none⟩) (strsV l) from HR2.out)
        have HB7 := Lib.hid (below_drewN HB.out nq)
        go_roundw
        case rel => exact ⟨i + 1, by first | rfl | (congr 1), hlt, HR7.out, HR8.out, HB7.out⟩
        case measure => simp [intOf]; omega
      · obtain rfl : i = l.length := by omega
        go_wp2
        go_ret
        exact ⟨rfl, HB.out⟩
  · obtain rfl : l = [] := List.eq_nil_of_length_eq_zero (by omega)
    go_enter Try.func15, Try.ntmps15
    go_wp2
    go_loopw [5] (fun k wr => k = .int .i64 0 ∧ wr = w) (fun _ _ => 0)
    case atStart => exact ⟨rfl, rfl⟩
    case round =>
      obtain ⟨rfl, rfl⟩ := hrel
      go_wp2
      go_ret
      exact ⟨rfl, Below.refl _ _⟩
end Go.Proofs.Ythpppkkagepomaa.Path
