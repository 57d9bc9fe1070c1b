/-
  Which patches can't be written.
-/
import Derived.Test.YtnkpmmijdkcdjaaX3
namespace Go.Proofs.Ytnkpmmijdkcdjaa
open Go.RowKit
attribute [local go_sem ↓] Go.wp_at_zero Go.wp_at_succ

section
variable {w : World} {S T : Nat → Prop} {bj b start n seq : Nat} {k : Dk Sx} {A : Option Addr}

set_option maxHeartbeats 800000 in
/-- Is a patch wrong? -/
theorem wrong_any (hJ : JB w bj b start n seq) (hD : IsDisk sx w S b k) (hs : start ≤ 4096) (hn : n ≤ 4096) (gB : Nat) (hB : w.cell? ⟨gB, 0, none⟩ = some (.pointer (some ⟨bj, 0, none⟩))) (s : Int) (ba : Addr) (cp : Nat) (t : Int) :
    Calls Try.prog 43 #[.agg #[.int .i64 s, .slice (some ba) 64 cp, .int .u16 t], .pointer (some ⟨gB, 0, none⟩)] w fun e w' => e = .returned (.bool (!takesB k.safe.length start n s)) ∧ Below w.heap.size w w' := by
  have Ht : Hid (∀ W, Below w.heap.size w W → Calls Try.prog 42 #[.pointer (some ⟨bj, 0, none⟩), .int .i64 s] W fun e w' => e = .returned (.bool (takesB k.safe.length start n s)) ∧ Below W.heap.size W w') := fun W hW =>
    (takes_any W S bj b start n seq k (hJ.below hW hJ.lt) (hD.below hW) hs hn s)
  have hlt := World.block_lt_of_cell? w _ hB
  have hb0 : Below w.heap.size w (w.alloc (.cells #[.int .i64 s, .slice (some ba) 64 cp, .int .u16 t] 49)) := (Below.refl _ _).alloc (Nat.le_refl _) _
  have Hb0 := Lib.hid hb0
  clear hJ hD hb0
  cases htk : takesB k.safe.length start n s
  · rw [htk] at Ht
    clear htk
    go_enter Try.func43, Try.ntmps43
    go_wp2_with (go_at_call 42; refine (Ht.out _ Hb0.out).mono ?_; rintro e w1 ⟨rfl, hb⟩)
    go_ret
    exact ⟨rfl, Hb0.out.trans (hb.mono Hb0.out.size)⟩
  · rw [htk] at Ht
    clear htk
    have d1 := (Bk.new w 49 [.int .i64 s, .slice (some ba) 64 cp, .int .u16 t])
    have hsz : (w.alloc (.cells #[.int .i64 s, .slice (some ba) 64 cp, .int .u16 t] 49)).heap.size = w.heap.size + 1 := by simp
    go_enter Try.func43, Try.ntmps43
    go_wp2_with (go_at_call 42; refine (Ht.out _ Hb0.out).mono ?_; rintro e w1 ⟨rfl, hb⟩; have d2 := (hb.cell (p := ⟨w.heap.size, 1, none⟩) (by rw [hsz]; exact Nat.lt_succ_self _)).trans (d1.cell 1))
    go_ret
    exact ⟨rfl, Hb0.out.trans (hb.mono Hb0.out.size)⟩

/-- The first wrong one. -/
def anyWrong (m start n : Nat) (L : List (Int × Sx)) : Bool := L.any fun p => !takesB m start n p.1
set_option maxHeartbeats 800000 in
theorem index_any (hJ : JB w bj b start n seq) (hD : IsDisk sx w S b k) (hs : start ≤ 4096) (hn : n ≤ 4096) (gB : Nat) (hB : w.cell? ⟨gB, 0, none⟩ = some (.pointer (some ⟨bj, 0, none⟩))) (L : List (Int × Sx)) (hL : Pats w T A L) (m c : Nat) (hm : L.length = m) (hmm : m ≤ 1000000) :
    Calls Try.prog 54 #[.slice A m c, .func (.func 43) #[] #[.pointer (some ⟨gB, 0, none⟩)]] w fun e w' => ∃ i : Int, e = .returned (.int .i64 i) ∧ decide (0 ≤ i) = anyWrong k.safe.length start n L ∧ Below w.heap.size w w' := by
  have hlt := World.block_lt_of_cell? w _ hB
  have Hw : Hid (∀ W, Below w.heap.size w W → ∀ (s : Int) (ba : Addr) (cp : Nat) (t : Int), Calls Try.prog 43 #[.agg #[.int .i64 s, .slice (some ba) 64 cp, .int .u16 t], .pointer (some ⟨gB, 0, none⟩)] W fun e w' => e = .returned (.bool (!takesB k.safe.length start n s)) ∧ Below W.heap.size W w') := fun W hW s ba cp t =>
    wrong_any (hJ.below hW hJ.lt) (hD.below hW) hs hn gB ((hW.cell (p := ⟨gB, 0, none⟩) hlt).trans hB) s ba cp t
  have HL := Lib.hid hL
  have Hm := Lib.hid hm
  clear hJ hD hB hL hm hs hn hlt
  go_enter Try.func54, Try.ntmps54
  go_wp2
  go_loopw [5, 8] (fun _ i wr => ∃ j : Nat, j ≤ m ∧ i = .int .i64 (j : Int) ∧ Below w.heap.size w wr ∧ Hid (∀ q p, L[q]? = some p → q < j → takesB k.safe.length start n p.1 = true)) (fun _ i _ => m - (intOf i).toNat)
  case atStart => exact ⟨0, Nat.zero_le _, rfl, Below.refl _ _, fun q _ _ hq => absurd hq (Nat.not_lt_zero _)⟩
  case round =>
    obtain ⟨j, hj, rfl, hb, Hf⟩ := hrel
    have Hb := Lib.hid hb
    clear hb
    by_cases hlt : j < m
    · obtain ⟨p, hp⟩ : ∃ p, L[j]? = some p := ⟨_, List.getElem?_eq_getElem (by rw [Hm.out]; exact hlt)⟩
      obtain ⟨b1, o, ba, oa, cp, rfl, _, _, _, _, _, c0, c1, c2, _⟩ := (HL.out.below Hb.out) j _ hp
      obtain ⟨s, x⟩ := p
      simp only at c0 c2
      have hq := Hw.out wr Hb.out s ⟨ba, oa, none⟩ cp x.t
      obtain ⟨t, ht⟩ : ∃ t : Int, t = x.t := ⟨_, rfl⟩
      rw [← ht] at c2 hq
      have Hp := Lib.hid hp
      clear hp ht
      cases htk : takesB k.safe.length start n s
      · rw [htk] at hq
        have Htk := Lib.hid htk
        clear htk
        go_wp2_with (go_at_call 43; refine hq.mono ?_; rintro e w' ⟨rfl, hb⟩)
        go_ret
        refine ⟨(j : Int), rfl, ?_, Hb.out.trans (hb.mono Hb.out.size)⟩
        have : anyWrong k.safe.length start n L = true := by
          rw [anyWrong, List.any_eq_true]
          exact ⟨_, List.mem_of_getElem? Hp.out, by simp only [Htk.out]; rfl⟩
        rw [this, decide_eq_true_eq]; omega
      · rw [htk] at hq
        have Htk := Lib.hid htk
        clear htk
        go_wp2_with (go_at_call 43; refine hq.mono ?_; rintro e w' ⟨rfl, hb⟩)
        go_roundw
        case rel => exact ⟨j + 1, by omega, by go_num, Hb.out.trans (hb.mono Hb.out.size), fun q p hq hlt => by
          rcases Nat.lt_or_ge q j with h | h
          · exact Hf.out q p hq h
          · obtain rfl : q = j := by omega
            rw [Hp.out] at hq
            cases hq
            exact Htk.out⟩
        case measure => simp [intOf]; omega
    · obtain rfl : j = m := by omega
      have : anyWrong k.safe.length start n L = false := by
        rw [anyWrong, List.any_eq_false]
        intro p hp
        obtain ⟨q, hq⟩ := List.mem_iff_getElem?.1 hp
        rw [Hf.out q p hq (by rw [← Hm.out]; exact (List.getElem?_eq_some_iff.1 hq).1)]
        simp
      have Hz := Lib.hid this
      clear this
      go_wp2
      go_ret
      exact ⟨-1, rfl, by rw [Hz.out]; rfl, Hb.out⟩

theorem contains_any (hJ : JB w bj b start n seq) (hD : IsDisk sx w S b k) (hs : start ≤ 4096) (hn : n ≤ 4096) (gB : Nat) (hB : w.cell? ⟨gB, 0, none⟩ = some (.pointer (some ⟨bj, 0, none⟩))) (L : List (Int × Sx)) (hL : Pats w T A L) (m c : Nat) (hm : L.length = m) (hmm : m ≤ 1000000) :
    Calls Try.prog 44 #[.slice A m c, .func (.func 43) #[] #[.pointer (some ⟨gB, 0, none⟩)]] w fun e w' => e = .returned (.bool (anyWrong k.safe.length start n L)) ∧ Below w.heap.size w w' := by
  have Hi := Lib.hid (index_any (c := c) hJ hD hs hn gB hB L hL m hm hmm)
  clear hJ hD hB hL hm
  go_enter Try.func44, Try.ntmps44
  go_wp2_with (go_at_call 54; refine Hi.out.mono ?_; rintro e w' ⟨i, rfl, hi, hb⟩)
  go_ret
  exact ⟨by rw [← hi]; rfl, hb⟩

/-- The error of patches that can't be written. -/
def refuseE (m start n : Nat) (L : List (Int × Sx)) : Int := if room n < L.length then 4 else if anyWrong m start n L then 1 else 0

set_option maxHeartbeats 800000 in
theorem refuse_any (hJ : JB w bj b start n seq) (hD : IsDisk sx w S b k) (hs : start ≤ 4096) (hn3 : 3 ≤ n) (hn : n ≤ 4096) (hq : seq < 18446744073709551615) (L : List (Int × Sx)) (hL : Pats w T A L) (m c : Nat) (hm : L.length = m) (hmm : m ≤ 1000000) :
    Calls Try.prog 31 #[.pointer (some ⟨bj, 0, none⟩), .slice A m c] w fun e w' => e = .returned (.int .i64 (refuseE k.safe.length start n L)) ∧ Below w.heap.size w w' := by
  have hlt := hJ.lt
  have hb0 : Below w.heap.size w (w.alloc (.cells #[.pointer (some ⟨bj, 0, none⟩)] 29)) := (Below.refl _ _).alloc (Nat.le_refl _) _
  have hB0 : (w.alloc (.cells #[.pointer (some ⟨bj, 0, none⟩)] 29)).cell? ⟨w.heap.size, 0, none⟩ = some (.pointer (some ⟨bj, 0, none⟩)) := (Bk.new w 29 [.pointer (some ⟨bj, 0, none⟩)]).cell 0
  have Hc := Lib.hid (contains_any (c := c) (hJ.below hb0 hlt) (hD.below hb0) hs hn w.heap.size hB0 L (hL.below hb0) m hm hmm)
  have Hr := Lib.hid (room_any (w.alloc (.cells #[.pointer (some ⟨bj, 0, none⟩)] 29)) bj b start n seq (hJ.below hb0 hlt) hn3 hn)
  have Hb0 := Lib.hid hb0
  have c3 := (hb0.cell (p := ⟨bj, 3, none⟩) hlt).trans (hJ.cell 3)
  have hsq : ((seq : Int) == 18446744073709551615) = false := by rw [beq_eq_false_iff_ne]; omega
  have hrm : room n ≤ 4096 := by unfold room; omega
  unfold refuseE
  rw [hm]
  obtain ⟨r, hr⟩ : ∃ r, r = room n := ⟨_, rfl⟩
  rw [← hr] at Hr hrm ⊢
  clear hJ hD hL hm hb0 hB0 hr
  by_cases hlong : r < m
  · rw [if_pos hlong]
    go_enter Try.func31, Try.ntmps31
    go_wp2_with (first | (go_at_call 14; refine Hr.out.mono ?_; rintro e w' ⟨rfl, rfl⟩))
    go_ret
    exact ⟨rfl, Hb0.out⟩
  · rw [if_neg hlong]
    cases hw : anyWrong k.safe.length start n L
    · rw [hw] at Hc
      clear hw
      go_enter Try.func31, Try.ntmps31
      go_wp2_with (first | (go_at_call 14; refine Hr.out.mono ?_; rintro e w' ⟨rfl, rfl⟩) | (go_at_call 44; refine Hc.out.mono ?_; rintro e w' ⟨rfl, hb⟩))
      go_ret
      exact ⟨rfl, Hb0.out.trans (hb.mono Hb0.out.size)⟩
    · rw [hw] at Hc
      clear hw
      go_enter Try.func31, Try.ntmps31
      go_wp2_with (first | (go_at_call 14; refine Hr.out.mono ?_; rintro e w' ⟨rfl, rfl⟩) | (go_at_call 44; refine Hc.out.mono ?_; rintro e w' ⟨rfl, hb⟩))
      go_ret
      exact ⟨rfl, Hb0.out.trans (hb.mono Hb0.out.size)⟩
end
end Go.Proofs.Ytnkpmmijdkcdjaa
