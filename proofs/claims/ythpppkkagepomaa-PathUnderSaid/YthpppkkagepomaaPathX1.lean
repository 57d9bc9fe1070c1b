/-
  Join: package path's and the document's.
-/
import Derived.Test.YthpppkkagepomaaPathX0
import Derived.WalkMore
namespace Go.Proofs.Ythpppkkagepomaa.Path
open Go.RowKit Go.Proofs.Ythpppkkagepomaa.Entry

theorem str_ext {a : ByteArray} {l : List UInt8} (h : a.data.toList = l) : a = ⟨l.toArray⟩ := by
  subst h
  cases a
  simp
theorem str_cat (a b : ByteArray) : (a ++ b).data.toList = a.data.toList ++ b.data.toList := by
  rw [ByteArray.data_append, Array.toList_append]
theorem ret_str {a b : ByteArray} (h : a = b) : Ending.returned (.string a) = .returned (.string b) := by rw [h]
theorem ret_bool {a b : Bool} (h : a = b) : Ending.returned (.bool a) = .returned (.bool b) := by rw [h]

/-- Whether a name is not valid. -/
theorem wrong_any (s : ByteArray) (w : World) : Calls Try.prog 24 #[.string s] w fun e w' => e = .returned (.bool (!nameB s.data.toList)) ∧ Below w.heap.size w w' := by
  have H := Lib.hid (fun w => right_any s w)
  generalize nameB s.data.toList = b at *
  go_enter Try.func24, Try.ntmps24
  go_wp2_with (go_at_call 21; (with_reducible refine (H.out _).mono ?_); rintro e w1 ⟨he, hb⟩; obtain rfl := he)
  go_ret
  exact ⟨rfl, hb⟩

/-- The first of these names that is not valid: from 0 on, if there is one. -/
def badAt (l : List (List UInt8)) (k : Int) : Prop := (0 ≤ k ∧ l.all nameB = false) ∨ (k = -1 ∧ l.all nameB = true)
theorem all_step {l : List (List UInt8)} {j : Nat} {n : List UInt8} (h : (l.take j).all nameB = true) (hn : l[j]? = some n) (hb : nameB n = true) : (l.take (j + 1)).all nameB = true := by
  rw [List.take_add_one, hn, List.all_append, h]
  simp [hb]
theorem all_bad {l : List (List UInt8)} {j : Nat} {n : List UInt8} (hn : l[j]? = some n) (hb : nameB n = false) : l.all nameB = false := by
  rw [List.all_eq_false]
  exact ⟨n, List.mem_of_getElem? hn, by rw [hb]; simp⟩
set_option maxHeartbeats 400000 in
theorem index_wrong (l : List (List UInt8)) (A : Option Addr) (n c : Nat) (w : World) (hn : l.length = n) (hr : Rd w w.heap.size A (strsV l)) (hm : n ≤ 9223372036854775807) :
    Calls Try.prog 30 #[.slice A n c, .func (.func 24) #[] #[]] w fun e w' => ∃ k : Int, e = .returned (.int .i64 k) ∧ badAt l k ∧ Below w.heap.size w w' := by
  have Hn := Lib.hid hn
  have Hr := Lib.hid hr
  clear hn hr
  go_enter Try.func30, Try.ntmps30
  go_wp2
  go_loopw [5, 8] (fun _ i wr => ∃ j : Nat, j ≤ n ∧ i = .int .i64 (j : Int) ∧ Hid ((l.take j).all nameB = true) ∧ Below w.heap.size w wr) (fun _ i _ => n - (intOf i).toNat)
  case atStart => exact ⟨0, Nat.zero_le _, rfl, Lib.hid rfl, Below.refl _ _⟩
  case round =>
    obtain ⟨j, hj, rfl, Hf, hb⟩ := hrel
    have Hb := Lib.hid hb
    clear hb
    by_cases hlt : j < n
    · obtain ⟨x, hx⟩ : ∃ x, l[j]? = some x := ⟨_, List.getElem?_eq_getElem (by rw [Hn.out]; exact hlt)⟩
      obtain ⟨B, o, rfl, hB⟩ := rd_strs Hr.out (by rw [Hn.out]; omega)
      have hc := rd_str (Hr.out.below Hb.out) hx
      unfold strV at hc
      have HX := Lib.hid hx
      have hwn : ∀ w, Calls Try.prog 24 #[.string ⟨x.toArray⟩] w fun e w' => e = .returned (.bool (!nameB x)) ∧ Below w.heap.size w w' := fun w => by
        have := wrong_any ⟨x.toArray⟩ w
        simpa using this
      have HW := Lib.hid hwn
      clear hx hwn
      cases hp : nameB x with
      | true =>
        have Hnext := Lib.hid (all_step Hf.out HX.out hp)
        rw [hp] at HW
        clear hp
        go_wp2_with (go_at_call 24; (with_reducible refine (HW.out _).mono ?_); rintro e w2 ⟨he, hb2⟩; obtain rfl := he; have HB2 := Lib.hid (Hb.out.trans (hb2.mono Hb.out.size)); clear hb2)
        go_roundw
        case rel => exact ⟨j + 1, by omega, by go_num, Hnext, HB2.out⟩
        case measure => simp [intOf]; omega
      | false =>
        have HD := Lib.hid (all_bad HX.out hp)
        rw [hp] at HW
        clear hp
        go_wp2_with (go_at_call 24; (with_reducible refine (HW.out _).mono ?_); rintro e w2 ⟨he, hb2⟩; obtain rfl := he; have HB2 := Lib.hid (Hb.out.trans (hb2.mono Hb.out.size)); clear hb2)
        go_ret
        exact ⟨_, rfl, .inl ⟨by omega, HD.out⟩, HB2.out⟩
    · obtain rfl : j = n := by omega
      have HD := Hf.out
      rw [List.take_of_length_le (by rw [Hn.out]; omega)] at HD
      have HD := Lib.hid HD
      go_wp2
      go_ret
      exact ⟨_, rfl, .inr ⟨rfl, HD.out⟩, Hb.out⟩
theorem contains_wrong (l : List (List UInt8)) (A : Option Addr) (n c : Nat) (w : World) (hn : l.length = n) (hr : Rd w w.heap.size A (strsV l)) (hm : n ≤ 9223372036854775807) :
    Calls Try.prog 23 #[.slice A n c, .func (.func 24) #[] #[]] w fun e w' => e = .returned (.bool (!l.all nameB)) ∧ Below w.heap.size w w' := by
  have H := Lib.hid (fun (u : World) (h : Rd u u.heap.size A (strsV l)) => index_wrong l A n c u hn h hm)
  have Hr := Lib.hid hr
  clear hn hr hm
  go_enter Try.func23, Try.ntmps23
  go_wp2_with fail
  refine (H.out _ Hr.out).mono ?_
  rintro e w1 ⟨k, rfl, hk, hb⟩
  rcases hk with ⟨h0, ha⟩ | ⟨h0, ha⟩
  · have HA := Lib.hid ha
    clear ha
    go_wp2
    go_ret
    exact ⟨ret_bool (by rw [HA.out]; rfl), hb⟩
  · have HA := Lib.hid ha
    subst h0
    clear ha
    go_wp2
    go_ret
    exact ⟨ret_bool (by rw [HA.out]; rfl), hb⟩

/-- strings.Join, of any list of strings that a slice holds, with a slash between. -/
theorem sjoin_any (l : List (List UInt8)) (A : Option Addr) (n c : Nat) (w : World) (hn : l.length = n) (hc : n ≤ c) (hr : Rd w w.heap.size A (strsV l)) (hl : (Lib.join l [47]).length ≤ 1000000) (hm : n ≤ 1000000) :
    Calls Try.prog 25 #[.slice A n c, .string ⟨#[47]⟩] w fun e w' => e = .returned (.string ⟨(Lib.join l [47]).toArray⟩) ∧ Below w.heap.size w w' := by
  subst hn
  rcases hr with h | ⟨b, o, rfl, hb, hcell⟩
  · have h0 : l = [] := by simpa [strsV] using h
    subst h0
    exact (Any.strings_Join_none Try.lays156 Try.Builder_Extra_156 A c ⟨#[47]⟩ w).mono fun e w' ⟨he, hw⟩ => ⟨he, hw ▸ Below.refl _ _⟩
  · have e : (l.map fun d => (⟨d.toArray⟩ : ByteArray)).map (·.data.toList) = l := by
      rw [List.map_map]
      conv => rhs; rw [← List.map_id l]
      apply List.map_congr_left
      intro d _
      simp
    have hJ := Any.strings_Join Try.lays156 Try.Builder_Extra_156 b o c (l.map fun d => (⟨d.toArray⟩ : ByteArray)) ⟨#[47]⟩ w (fun j x hx => by
      refine hcell j _ ?_
      simp only [List.getElem?_map, Option.map_eq_some_iff, strsV] at hx ⊢
      obtain ⟨d, hd, rfl⟩ := hx
      exact ⟨d, hd, rfl⟩) hb (by rw [List.length_map]; omega) (by rw [List.length_map]; exact hc) (by rw [e]; show (Lib.join l [47]).length ≤ _; omega)
    rw [List.length_map, e] at hJ
    exact hJ
theorem join_path (l : List (List UInt8)) : 47 :: Lib.join l [47] = pathB l := by
  cases l with
  | nil => rfl
  | cons n l =>
    rw [path_cons, Lib.join_cons]
    show _ = 47 :: (n ++ pth l)
    congr 2
    induction l with
    | nil => rfl
    | cons k l ih =>
      show [47] ++ k ++ Lib.joinTail [47] l = 47 :: (k ++ pth l)
      rw [ih]
      rfl
theorem join_size {l : List (List UInt8)} (h : Okp l) : (Lib.join l [47]).length ≤ 224 := by
  have h1 := length_path h
  have h2 := congrArg List.length (join_path l)
  simp at h2
  omega
theorem okp_iff (l : List (List UInt8)) : Okp l ↔ l.length ≤ 16 ∧ l.all nameB = true := ⟨fun h => ⟨h.len, names_all.2 h.names⟩, fun ⟨h1, h2⟩ => ⟨h1, names_all.1 h2⟩⟩

/-- What a call hands back that answers with a text: it, and OK or an error. -/
def HandsJ (w : World) (r : List UInt8 × Nat) (e : Ending) (w' : World) : Prop := e = .returned (.tuple #[.string ⟨r.1.toArray⟩, .int .i64 (r.2 : Int)]) ∧ Below w.heap.size w w'
theorem handsj_no {w w' : World} {l : List (List UInt8)} (h : ¬ Okp l) (hb : Below w.heap.size w w') : HandsJ w (joinP l) (.returned (.tuple #[.string ⟨#[]⟩, .int .i64 130])) w' := by
  rw [join_no h]
  exact ⟨rfl, hb⟩
theorem handsj_yes {w w' : World} {l : List (List UInt8)} {s : ByteArray} (h : Okp l) (hs : s.data.toList = pathB l) (hb : Below w.heap.size w w') : HandsJ w (joinP l) (.returned (.tuple #[.string s, .int .i64 0])) w' := by
  rw [join_yes h, str_ext hs]
  exact ⟨rfl, hb⟩
set_option maxHeartbeats 400000 in
theorem join_any (l : List (List UInt8)) (A : Option Addr) (n c : Nat) (w : World) (hn : l.length = n) (hc : n ≤ c) (hr : Rd w w.heap.size A (strsV l)) (hm : n ≤ 9223372036854775807) :
    Calls Try.prog 16 #[.slice A n c] w fun e w' => HandsJ w (joinP l) e w' := by
  have Hr := Lib.hid hr
  by_cases h16 : n ≤ 16
  · have HC := Lib.hid (fun (u : World) (h : Rd u u.heap.size A (strsV l)) => contains_wrong l A n c u hn h hm)
    have hle : ¬ (16 : Int) < (n : Int) := by omega
    cases ha : l.all nameB
    · have HN : Hid (¬ Okp l) := Lib.hid (fun h => by rw [okp_iff, ha] at h; cases h.2)
      rw [ha] at HC
      clear ha hn hr hm hc
      go_enter Try.func16, Try.ntmps16
      go_wp2_with (go_at_call 23; (with_reducible refine (HC.out _ Hr.out).mono ?_); rintro e w1 ⟨he, hb⟩; obtain rfl := he)
      go_ret2
      exact handsj_no HN.out hb
    · have HY : Hid (Okp l) := Lib.hid ((okp_iff l).2 ⟨by omega, ha⟩)
      have HJ := Lib.hid (fun (u : World) (h : Rd u u.heap.size A (strsV l)) => sjoin_any l A n c u hn hc h (by have := join_size HY.out; omega) (by omega))
      have hjs : (Lib.join l [47]).length ≤ 224 := join_size HY.out
      have HP := Lib.hid (join_path l)
      generalize Lib.join l [47] = J at *
      rw [ha] at HC
      clear ha hn hr hm hc
      go_enter Try.func16, Try.ntmps16
      go_wp2_with (first
        | (go_at_call 23; (with_reducible refine (HC.out _ Hr.out).mono ?_); rintro e w1 ⟨he, hb⟩; obtain rfl := he; have HB1 := Lib.hid hb; clear hb)
        | (go_at_call 25; (with_reducible refine (HJ.out _ ((Hr.out.below HB1.out).more HB1.out.size)).mono ?_); rintro e w2 ⟨he, hb⟩; obtain rfl := he; have HB2 := Lib.hid (HB1.out.trans (hb.mono HB1.out.size)); clear hb))
      go_ret2
      exact handsj_yes HY.out (by rw [← HP.out, str_cat]; rfl) HB2.out
  · have HN : Hid (¬ Okp l) := Lib.hid (fun h => by have := h.len; omega)
    have hle : (16 : Int) < (n : Int) := by omega
    clear hn hr hm hc
    go_enter Try.func16, Try.ntmps16
    go_wp2
    go_ret2
    exact handsj_no HN.out (Below.refl _ _)
end Go.Proofs.Ythpppkkagepomaa.Path
