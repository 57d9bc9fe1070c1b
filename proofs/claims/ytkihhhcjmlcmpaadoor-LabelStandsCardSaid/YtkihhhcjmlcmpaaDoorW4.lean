/-
  The label of a text, by package label and by the document; the document's examples: what each call returns, and what it leaves.
-/
import Derived.Test.YtkihhhcjmlcmpaaDoorW3
namespace Go.Proofs.YtkihhhcjmlcmpaaDoor
open Go.RowKit

theorem str_beq (a b : ByteArray) : (a.toList == b.toList) = decide (a = b) := by
  rw [Bool.eq_iff_iff, beq_iff_eq, decide_eq_true_eq, ByteArray.toList_eq, ByteArray.toList_eq]
  refine ⟨fun h => ?_, fun h => by rw [h]⟩
  rw [str_ext h]
/-- The label of a text, and the error. -/
def parA (s : List UInt8) : Nat := if textL (nmd s) = s then nmd s else 0
def parE (s : List UInt8) : Int := if textL (nmd s) = s then 0 else 40

set_option maxHeartbeats 400000 in
theorem parse_any (s : ByteArray) (w : World) (hs : s.size ≤ 1000000) (hm : MaxAt w) :
    Calls Tryd.prog 24 #[.string s] w fun e w' => e = .returned (.tuple #[.int .u16 (parA s.data.toList : Nat), .int .i64 (parE s.data.toList)]) ∧ Below w.heap.size w w' := by
  have hlt := nmd_lt s.data.toList
  go_enter Tryd.func24, Tryd.ntmps24
  go_wp2_with fail
  refine (named_any s _ hs hm).mono ?_
  rintro e w1 ⟨rfl, hb1⟩
  go_wp2_with fail
  refine (text_any _ _ hlt).mono ?_
  rintro e w2 ⟨rfl, hb2⟩
  have hB := hb1.trans (hb2.mono hb1.size)
  by_cases h : textL (nmd s.data.toList) = s.data.toList
  · have H1 := Lib.hid (show parA s.data.toList = nmd s.data.toList by rw [parA, if_pos h])
    have H2 := Lib.hid (show parE s.data.toList = 0 by rw [parE, if_pos h])
    have e1 : (⟨(textL (nmd s.data.toList)).toArray⟩ : ByteArray) = s := by rw [h]
    rw [e1]
    clear h e1
    go_wp2
    go_ret2
    exact ⟨ret_two (by rw [H1.out]) H2.out.symm, hB⟩
  · have H1 := Lib.hid (show parA s.data.toList = 0 by rw [parA, if_neg h])
    have H2 := Lib.hid (show parE s.data.toList = 40 by rw [parE, if_neg h])
    obtain ⟨t, ht⟩ : ∃ t : ByteArray, t = ⟨(textL (nmd s.data.toList)).toArray⟩ := ⟨_, rfl⟩
    have hne : (t.toList == s.toList) = false := by
      rw [str_beq, decide_eq_false_iff_not]
      intro e
      apply h
      have e2 := congrArg (·.data.toList) (ht.symm.trans e)
      exact e2
    rw [← ht]
    clear h ht
    go_wp2
    go_ret2
    exact ⟨ret_two (by rw [H1.out]; rfl) H2.out.symm, hB⟩

theorem spot_eq (s d : ByteArray) (j : Nat) (h : j + d.size < s.size) (hj : 1 ≤ j) :
    spotB s.data.toList d.data.toList j = (decide (s.extract j (j + d.size) = d) && !digitB s[j - 1] && !digitB s[j + d.size]) := by
  have hl : s.data.toList.length = s.size := by simp
  have hdl : d.data.toList.length = d.size := by simp
  have h1 : s.data.toList.getD (j - 1) 0 = s[j - 1] := by
    rw [List.getD_eq_getElem?_getD, List.getElem?_eq_getElem (by omega)]; rfl
  have h2 : s.data.toList.getD (j + d.data.toList.length) 0 = s[j + d.size] := by
    rw [List.getD_eq_getElem?_getD, List.getElem?_eq_getElem (by omega)]; simp only [hdl]; rfl
  have h3 : ((s.data.toList.drop j).take d.data.toList.length == d.data.toList) = decide (s.extract j (j + d.size) = d) := by
    rw [Bool.eq_iff_iff, beq_iff_eq, decide_eq_true_eq, hdl]
    have e : (s.extract j (j + d.size)).data.toList = (s.data.toList.drop j).take d.size := by
      rw [ByteArray.data_extract, Array.toList_extract, List.extract_eq_take_drop]
      congr 1
      omega
    rw [← e]
    constructor
    · intro x
      have := str_ext x
      rw [this]
    · intro x; rw [x]
  unfold spotB
  rw [h1, h2, h3]

/-- Nothing was found ahead of a place. -/
def NoHit (s d : List UInt8) (j : Nat) : Prop := ∀ i, 1 ≤ i → i < j → i + d.length < s.length → spotB s d i = false
theorem NoHit.step {s d : List UInt8} {j : Nat} (h : NoHit s d j) (hs : spotB s d j = false) : NoHit s d (j + 1) := by
  intro i h1 h2 h3
  by_cases e : i = j
  · subst e; exact hs
  · exact h i h1 (by omega) h3
theorem NoHit.done {s d : List UInt8} {j : Nat} (h : NoHit s d j) (hj : ¬ j + d.length < s.length) : foundB s d = false := by
  unfold foundB
  rw [List.any_eq_false]
  intro i _
  by_cases hi : 1 ≤ i ∧ i + d.length < s.length
  · rw [h i hi.1 (by omega) hi.2]; simp
  · simp [hi]
theorem hit_found {s d : List UInt8} {j : Nat} (h1 : 1 ≤ j) (h2 : j + d.length < s.length) (hs : spotB s d j = true) : foundB s d = true := by
  unfold foundB
  rw [List.any_eq_true]
  exact ⟨j, by simp; omega, by simp [h1, h2, hs]⟩

set_option maxHeartbeats 800000 in
theorem rnamed_any (s : ByteArray) (k : Nat) (w : World) (hs : s.size ≤ 1000000) (hk : k < 16) :
    Calls Tryd.prog 33 #[.string s, .int .i64 (k : Int)] w fun e w' => e = .returned (.bool (foundB s.data.toList (dg k))) ∧ Below w.heap.size w w' := by
  have hd := dg_len k hk
  go_enter Tryd.func33, Tryd.ntmps33
  go_wp2_with fail
  refine (digits_any k _ hk).mono ?_
  rintro e w1 ⟨rfl, hb1⟩
  obtain ⟨d, hdd⟩ : ∃ d : ByteArray, d = ⟨(dg k).toArray⟩ := ⟨_, rfl⟩
  rw [← hdd]
  have hd2 : 1 ≤ d.size ∧ d.size ≤ 2 := by rw [hdd, str_size]; exact hd
  have Hd : Hid (dg k = d.data.toList) := Lib.hid (by rw [hdd])
  have hsl : s.data.toList.length = s.size := by simp
  have hdl : d.data.toList.length = d.size := by simp
  have Hsl := Lib.hid hsl
  have Hdl := Lib.hid hdl
  clear hd hdd hsl hdl
  go_wp2
  go_loop [6] (fun i => ∃ j : Nat, 1 ≤ j ∧ j ≤ s.size + 1 ∧ i = .int .i64 (j : Int) ∧ NoHit s.data.toList d.data.toList j) (fun i => s.size - (intOf i).toNat)
  case atStart => exact ⟨1, Nat.le_refl _, by omega, rfl, fun i h1 h2 => absurd h2 (by omega)⟩
  case round =>
    obtain ⟨j, hj, hj2, rfl, hN⟩ := hrel
    by_cases hlt : j + d.size < s.size
    · have hsp := spot_eq s d j hlt hj
      cases hq : decide (s.extract j (j + d.size) = d)
      · have hq' : ((s.extract j (j + d.size)).toList == d.toList) = false := by rw [str_beq]; exact hq
        have HN := Lib.hid (hN.step (by rw [hsp, hq]; rfl))
        clear hsp hq hN
        go_wp2
        go_round
        case rel => exact ⟨j + 1, by omega, by omega, by go_num, HN.out⟩
        case measure => simp [intOf]; omega
      · have hq' : ((s.extract j (j + d.size)).toList == d.toList) = true := by rw [str_beq]; exact hq
        cases hq2 : digitB s[j - 1]
        · cases hq3 : digitB s[j + d.size]
          · have HF := Lib.hid (hit_found (s := s.data.toList) (d := d.data.toList) hj (by rw [Hsl.out, Hdl.out]; exact hlt) (by rw [hsp, hq, hq2, hq3]; rfl))
            have H2 := Lib.hid hq2
            have H3 := Lib.hid hq3
            clear hsp hq hN hq2 hq3
            go_wp2_with (go_at_call 40; refine (digit_any _ _).mono ?_; rintro e w' ⟨rfl, rfl⟩; first | rw [H2.out] | rw [H3.out])
            go_ret
            exact ⟨ret_bool (by rw [Hd.out, HF.out]), hb1⟩
          · have HN := Lib.hid (hN.step (by rw [hsp, hq, hq2, hq3]; rfl))
            have H2 := Lib.hid hq2
            have H3 := Lib.hid hq3
            clear hsp hq hN hq2 hq3
            go_wp2_with (go_at_call 40; refine (digit_any _ _).mono ?_; rintro e w' ⟨rfl, rfl⟩; first | rw [H2.out] | rw [H3.out])
            go_round
            case rel => exact ⟨j + 1, by omega, by omega, by go_num, HN.out⟩
            case measure => simp [intOf]; omega
        · have HN := Lib.hid (hN.step (by rw [hsp, hq, hq2]; rfl))
          have H2 := Lib.hid hq2
          clear hsp hq hN hq2
          go_wp2_with (go_at_call 40; refine (digit_any _ _).mono ?_; rintro e w' ⟨rfl, rfl⟩; rw [H2.out])
          go_round
          case rel => exact ⟨j + 1, by omega, by omega, by go_num, HN.out⟩
          case measure => simp [intOf]; omega
    · go_wp2
      go_ret
      exact ⟨ret_bool (by rw [Hd.out, hN.done (by rw [Hsl.out, Hdl.out]; exact hlt)]), hb1⟩

set_option maxHeartbeats 400000 in
theorem rparse_any (s : ByteArray) (w : World) (hs : s.size ≤ 1000000) :
    Calls Tryd.prog 25 #[.string s] w fun e w' => e = .returned (.tuple #[.int .u16 (parA s.data.toList : Nat), .int .i64 (parE s.data.toList)]) ∧ Below w.heap.size w w' := by
  go_enter Tryd.func25, Tryd.ntmps25
  go_wp2
  go_loopw [4, 5] (fun x i wr => ∃ j : Nat, j ≤ 16 ∧ i = .int .i64 (j : Int) ∧ (∃ m : Nat, x = .int .u16 (m : Int) ∧ Naming (fun k => foundB s.data.toList (dg k)) j m) ∧ Below w.heap.size w wr) (fun _ i _ => 16 - (intOf i).toNat)
  case atStart => exact ⟨0, by omega, rfl, ⟨0, rfl, Naming.start _⟩, Below.refl _ _⟩
  case round =>
    obtain ⟨j, hj, rfl, ⟨m, rfl, hN⟩, hB⟩ := hrel
    have hsz := hB.size
    by_cases hlt : j < 16
    · have hmlt := hN.1
      cases hb : foundB s.data.toList (dg j)
      · have HN := Lib.hid (hN.skip hb)
        have Hb := Lib.hid hb
        clear hb hN
        go_wp2_with (first | (go_at_call 33; refine (rnamed_any s j _ hs hlt).mono ?_; rintro e w1 ⟨rfl, hb1⟩; rw [Hb.out]))
        go_roundw
        case rel => exact ⟨j + 1, by omega, by go_num, ⟨_, rfl, HN.out⟩, hB.trans (hb1.mono hsz)⟩
        case measure => simp [intOf]; omega
      · have HN := Lib.hid (hN.add hlt hb)
        have Hnew := Lib.hid hN.new
        have Hb := Lib.hid hb
        clear hb hN
        go_wp2_with (first | (go_at_call 33; refine (rnamed_any s j _ hs hlt).mono ?_; rintro e w1 ⟨rfl, hb1⟩; rw [Hb.out]) | (go_at_call 30; refine (rwith_any _ _ _ hmlt hlt Hnew.out).mono ?_; rintro e w' ⟨rfl, rfl⟩))
        go_roundw
        case rel => exact ⟨j + 1, by omega, by go_num, ⟨_, rfl, HN.out⟩, hB.trans (hb1.mono hsz)⟩
        case measure => simp [intOf]; omega
    · obtain rfl : j = 16 := by omega
      have hm : m = nmdR s.data.toList := hN.2
      have hmlt := hN.1
      have hw := ways_alike s.data.toList
      rw [← hm] at hw
      have Hw := Lib.hid hw
      clear hN hw hm
      go_wp2_with fail
      refine (rtext_any _ _ hmlt).mono ?_
      rintro e w2 ⟨rfl, hb2⟩
      have hB2 := hB.trans (hb2.mono hsz)
      by_cases h : textL m = s.data.toList
      · have h' := Hw.out.1.2 h
        have H1 := Lib.hid (show parA s.data.toList = m by rw [parA, if_pos h', Hw.out.2 h'])
        have H2 := Lib.hid (show parE s.data.toList = 0 by rw [parE, if_pos h'])
        have e1 : (⟨(textL m).toArray⟩ : ByteArray) = s := by rw [h]
        rw [e1]
        clear h e1 h'
        go_wp2
        go_ret2
        exact ⟨ret_two (by rw [H1.out]) H2.out.symm, hB2⟩
      · have h' : ¬ textL (nmd s.data.toList) = s.data.toList := fun x => h (Hw.out.1.1 x)
        have H1 := Lib.hid (show parA s.data.toList = 0 by rw [parA, if_neg h'])
        have H2 := Lib.hid (show parE s.data.toList = 40 by rw [parE, if_neg h'])
        obtain ⟨t, ht⟩ : ∃ t : ByteArray, t = ⟨(textL m).toArray⟩ := ⟨_, rfl⟩
        have hne : (t.toList == s.toList) = false := by
          rw [str_beq, decide_eq_false_iff_not]
          intro e
          apply h
          have e2 := congrArg (·.data.toList) (ht.symm.trans e)
          exact e2
        rw [← ht]
        clear h ht h'
        go_wp2
        go_ret2
        exact ⟨ret_two (by rw [H1.out]; rfl) H2.out.symm, hB2⟩

theorem of_shown : ofA [3, 1, 3] = 10 ∧ ofE [3, 1, 3] = 0 := by decide
theorem parse_shown : parE [91, 51, 44, 49, 93] = 40 := by decide
theorem text_shown : textL 10 = [91, 49, 44, 51, 93] ∧ textL 0 = [91, 93] := by decide
theorem flow_shown : flowB 2 10 = true ∧ flowB 2 8 = false := by decide
end Go.Proofs.YtkihhhcjmlcmpaaDoor
