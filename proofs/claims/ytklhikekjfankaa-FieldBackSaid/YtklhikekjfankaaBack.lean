/-
  FieldBack: whatever the bytes, the place, the size and the numbers, what Set stored Get returns, no other byte is changed, and what Lay stored Take returns.
-/
import Derived.Test.YtklhikekjfankaaF
import Derived.Test.YtklhikekjfankaaN
import Derived.Deep.DeepCutAuto
import Derived.Deep.CutBlock
namespace Go.Proofs.Ytklhikekjfankaa
open Go.ChangeShapes Go.WideShapes Go.ChangeAt Go.RowKit

theorem setr_ok (l : List UInt8) (A : Option Addr) (n c at_ size x : Nat) (w : World) (hn : l.length = n) (hr : Rd w w.heap.size A (bytesV l)) (hs : at_ + size ≤ n) (hs8 : size ≤ 8) (hs1 : 1 ≤ size) (hm : n ≤ 65536)
    (hx : x < 18446744073709551616) (hf : fitB x size = true) :
    Calls Try.prog 14 #[.slice A n c, .int .i64 at_, .int .i64 size, .int .u64 x] w fun e w' => ∃ A' c', n ≤ c' ∧ e = .returned (.tuple #[.slice A' n c', .int .i64 0]) ∧ Rd w' w'.heap.size A' (bytesV (put l at_ (digs x size))) ∧ Below w.heap.size w w' := by
  have hl : (put l at_ (digs x size)).length = n := by rw [length_put _ _ _ (by rw [length_digs]; omega), hn]
  refine (set_ok l A n c at_ size x w hn hr hs hs8 hs1 hm hx hf).mono fun e w' ⟨v, he, hown, hb⟩ => ?_
  rw [hl] at hown
  obtain ⟨_, A', c', rfl, hc', _, hrd⟩ := own_rd hown
  exact ⟨A', c', hc', he, hrd, hb⟩
theorem getr_ok (l : List UInt8) (A : Option Addr) (n c : Nat) (B : Nat) (at_ size x : Nat) (w : World) (hn : l.length = n) (hr : Rd w B A (bytesV (put l at_ (digs x size)))) (hc : n ≤ c) (hs : at_ + size ≤ n) (hs8 : size ≤ 8) (hs1 : 1 ≤ size) (hm : n ≤ 9223372036854775807)
    (hf : fitB x size = true) :
    Calls Try.prog 12 #[.slice A n c, .int .i64 at_, .int .i64 size] w fun e w' => e = .returned (.tuple #[.int .u64 x, .int .i64 0]) ∧ w = w' := by
  have hl : (put l at_ (digs x size)).length = n := by rw [length_put _ _ _ (by rw [length_digs]; omega), hn]
  have hg : le (((put l at_ (digs x size)).drop at_).take size) = x := le_got l at_ x size (by omega) (by simpa [fitB] using hf)
  have := get_ok (put l at_ (digs x size)) A n c B at_ size w hl hr hc hs hs8 hs1 hm
  rw [hg] at this
  exact this

theorem str_at {w : World} {A : Option Addr} {n c B : Nat} {l : List UInt8} (hr : Rd w B A (bytesV l)) (hn : l.length = n) (k : Nat) :
    (convert 22 9 (.slice A n c)).run Try.prog (w.drewN k) = .ok (.string ⟨l.toArray⟩) (w.drewN k) :=
  run_str (w.drewN k) 22 9 5 Try.underlying22 Try.underlying5 Try.underlying9 B A n c l hn (hr.drewN k)

/-- What is left behind a round, or at the loop's end. -/
def Went (w1 wr : World) : Prop := Below w1.heap.size w1 wr

set_option maxRecDepth 100000 in
set_option maxHeartbeats 1600000 in
theorem back_arg (K : List Nat) (A B : Option Addr) (nb cb n d : Nat) (at_ size : Int) (w : World) (hK : K.length = n) (hs : Rd w w.heap.size B (numsV K))
    (hcb : nb ≤ cb) (hd : n ≤ d) (hcb63 : cb ≤ 9223372036854775807) (hd63 : d ≤ 9223372036854775807) (hb : ∀ x ∈ K, x < 18446744073709551616)
    (h : ¬ (1 ≤ size ∧ size ≤ 8 ∧ 0 ≤ at_ ∧ at_ ≤ (min nb 5000 : Nat) - size)) :
    Calls Try.prog 7 #[.slice A nb cb, .int .i64 at_, .int .i64 size, .slice B n d] w fun e w' => e = .returned (.bool true) ∧ Below w.heap.size w w' := by
  obtain ⟨m, hm⟩ : ∃ m, m = min nb 5000 := ⟨_, rfl⟩
  have hm5 : m ≤ 5000 := by omega
  have few := fun w => few_any A nb cb w hcb (by omega)
  rw [← hm] at h few
  have Few := Lib.hid few
  have Hh := Lib.hid h
  have HK := Lib.hid hK
  have hL8 : layB 8 (K.take 500) = true := by
    have h1 : (K.take 500).length ≤ 500 := by rw [List.length_take]; omega
    have h2 : ∀ x ∈ K.take 500, fitB x 8 = true := fun x hx => fit8 x (hb x (List.mem_of_mem_take hx))
    simp only [layB, Bool.and_eq_true, decide_eq_true_eq, List.all_eq_true]
    exact ⟨by omega, h2⟩
  have hlen : (K.take 500).length = min n 500 := by rw [List.length_take, hK]; omega
  have hb5 : ∀ x ∈ K.take 500, x < 18446744073709551616 := fun x hx => hb x (List.mem_of_mem_take hx)
  have hf5 : ∀ x ∈ K.take 500, fitB x 8 = true := fun x hx => fit8 x (hb5 x hx)
  have hs5 := hs.take 500
  rw [← numsV_take] at hs5
  obtain ⟨M, hM⟩ : ∃ M, M = K.take 500 := ⟨_, rfl⟩
  obtain ⟨q, hq⟩ : ∃ q, q = min n 500 := ⟨_, rfl⟩
  rw [← hM] at hL8 hlen hb5 hf5 hs5
  rw [← hq] at hlen
  have hq5 : q ≤ 500 := by omega
  have Hq := Lib.hid hq
  have HL8 := Lib.hid hL8
  have HM := Lib.hid hlen
  have HT := Lib.hid (takel_layl 8 (by omega) M hf5)
  have Hll := Lib.hid (show (layl 8 M).length = q * 8 by rw [length_layl, hlen])
  clear few h hK hm hL8 hlen hM hq hf5
  go_enter Try.func7, Try.ntmps7
  go_upto_block 0 with (first
    | (go_at_call 10; refine (shown_any _).mono ?_; rintro e w1 ⟨rfl, hb1⟩)
    | (go_at_call 11; refine (Few.out _).mono ?_; rintro e w' ⟨rfl, rfl⟩))
  go_cut [26] (fun _ wc => Went w1 wc)
  case first =>
    go_wp2_with fail
    go_loop [26] (fun k => ∃ j : Nat, j ≤ n ∧ k = .int .i64 j) (fun k => n - (intOf k).toNat)
    case atStart => exact ⟨0, Nat.zero_le _, rfl⟩
    case round =>
      obtain ⟨j, hj, rfl⟩ := hrel
      by_cases hlt : j < n
      · by_cases h500 : j < 500
        · rcases hs.below hb1 with h | ⟨b, o, rfl, _, hc⟩
          · exfalso; have := congrArg List.length h; rw [length_numsV, HK.out] at this; simp at this; omega
          have hjl : j < K.length := by have := HK.out; omega
          have hcell : w1.cell? ⟨b, o + j, none⟩ = some (.int .u64 (K[j] : Int)) := hc j _ (by simp [numsV, numV]; exact ⟨_, List.getElem?_eq_getElem _, rfl⟩)
          obtain ⟨x, hxe⟩ : ∃ x, x = K[j] := ⟨_, rfl⟩
          rw [← hxe] at hcell
          clear hc hxe
          go_wp2_with (first
            | (go_at_call 14; refine (set_arg _ _ _ _ _ _ _ Hh.out (by omega)).mono ?_; rintro e w' ⟨rfl, rfl⟩))
          go_round
          case rel => exact ⟨j + 1, by omega, by go_num⟩
          case measure => simp [intOf]; omega
        · go_wp2_with fail
          go_meet
          exact Below.refl _ _
      · go_wp2_with fail
        go_meet
        exact Below.refl _ _
  case rest =>
    have hs6 := (hs5.below (hb1.trans (hcut.mono hb1.size))).more (hb1.trans (hcut.mono hb1.size)).size
    rcases (show q = n ∧ n ≤ 500 ∨ q = 500 ∧ ¬ n ≤ 500 by have := Hq.out; omega) with ⟨rfl, hn5⟩ | ⟨rfl, hn5⟩
    all_goals
      clear Hq
      go_wp2_with fail
      refine (show Calls Try.prog 16 #[.int .i64 8, .slice B _ d] wc _ from lay_any M B _ d 8 wc HM.out hs6 (by omega) (by omega) hb5).mono ?_
      rintro e3 w3 hp
      obtain ⟨v3, rfl, hown3, hb3⟩ := hp.1 HL8.out
      rw [Hll.out] at hown3
      obtain ⟨_, A3, c3, rfl, hc3, _, hrd3⟩ := own_rd hown3
      clear hp hown3
      go_wp2_with fail
      refine (show Calls Try.prog 18 #[.int .i64 8, .slice A3 _ c3] w3 _ from take_ok (layl 8 M) A3 _ c3 _ 8 w3 Hll.out hrd3 hc3 (by omega) (by omega) rfl (by omega)).mono ?_
      rw [HT.out]
      rintro e4 w4 ⟨v4, rfl, hown4, hb4⟩
      rw [HM.out] at hown4
      obtain ⟨_, A4, c4, rfl, _, _, hrd4⟩ := own_rd hown4
      clear hown4
      have hb34 := hb3.trans (hb4.mono hb3.size)
      go_wp2_with fail
      refine (same_any M _ _ _ _ _ _ _ _ HM.out (by omega) hrd4 ((hs6.below hb34).more hb34.size)).mono ?_
      rintro e5 w5 ⟨rfl, k5, rfl⟩
      go_wp2_with fail
      go_ret
      have hbw := hb1.trans (hcut.mono hb1.size)
      have hbz := hbw.trans (hb34.mono hbw.size)
      exact ⟨rfl, hbz.os, hbz.tape, hbz.output, hbz.size, hbz.block⟩

set_option maxRecDepth 100000 in
set_option maxHeartbeats 1600000 in
theorem back_in (l : List UInt8) (K : List Nat) (A B : Option Addr) (nb cb n d : Nat) (at_ size : Nat) (w : World) (hl : l.length = nb) (hK : K.length = n) (hr : Rd w w.heap.size A (bytesV l)) (hs : Rd w w.heap.size B (numsV K))
    (hcb : nb ≤ cb) (hd : n ≤ d) (hcb63 : cb ≤ 9223372036854775807) (hd63 : d ≤ 9223372036854775807) (hb : ∀ x ∈ K, x < 18446744073709551616)
    (hs1 : 1 ≤ size) (hs8 : size ≤ 8) (hsz : at_ + size ≤ min nb 5000) :
    Calls Try.prog 7 #[.slice A nb cb, .int .i64 at_, .int .i64 size, .slice B n d] w fun e w' => e = .returned (.bool true) ∧ Below w.heap.size w w' := by
  obtain ⟨m, hm⟩ : ∃ m, m = min nb 5000 := ⟨_, rfl⟩
  have hm5 : m ≤ 5000 := by omega
  have hmcb : m ≤ cb := by omega
  have few := fun w => few_any A nb cb w hcb (by omega)
  rw [← hm] at hsz few
  have Few := Lib.hid few
  have hx5 := hr.take 5000
  rw [← bytesV_take] at hx5
  have hlx : (l.take 5000).length = m := by rw [hm]; exact few_len l nb hl
  obtain ⟨X, hX⟩ : ∃ X, X = l.take 5000 := ⟨_, rfl⟩
  rw [← hX] at hx5 hlx
  have HX := Lib.hid hlx
  have HK := Lib.hid hK
  have hL8 : layB 8 (K.take 500) = true := by
    have h1 : (K.take 500).length ≤ 500 := by rw [List.length_take]; omega
    have h2 : ∀ x ∈ K.take 500, fitB x 8 = true := fun x hx => fit8 x (hb x (List.mem_of_mem_take hx))
    simp only [layB, Bool.and_eq_true, decide_eq_true_eq, List.all_eq_true]
    exact ⟨by omega, h2⟩
  have hlen : (K.take 500).length = min n 500 := by rw [List.length_take, hK]; omega
  have hb5 : ∀ x ∈ K.take 500, x < 18446744073709551616 := fun x hx => hb x (List.mem_of_mem_take hx)
  have hf5 : ∀ x ∈ K.take 500, fitB x 8 = true := fun x hx => fit8 x (hb5 x hx)
  have hs5 := hs.take 500
  rw [← numsV_take] at hs5
  obtain ⟨M, hM⟩ : ∃ M, M = K.take 500 := ⟨_, rfl⟩
  obtain ⟨q, hq⟩ : ∃ q, q = min n 500 := ⟨_, rfl⟩
  rw [← hM] at hL8 hlen hb5 hf5 hs5
  rw [← hq] at hlen
  have hq5 : q ≤ 500 := by omega
  have Hq := Lib.hid hq
  have HL8 := Lib.hid hL8
  have HM := Lib.hid hlen
  have HT := Lib.hid (takel_layl 8 (by omega) M hf5)
  have Hll := Lib.hid (show (layl 8 M).length = q * 8 by rw [length_layl, hlen])
  clear few hK hm hr hl hX hlx hL8 hlen hM hq hf5
  go_enter Try.func7, Try.ntmps7
  go_upto_block 0 with (first
    | (go_at_call 10; refine (shown_any _).mono ?_; rintro e w1 ⟨rfl, hb1⟩)
    | (go_at_call 11; refine (Few.out _).mono ?_; rintro e w' ⟨rfl, rfl⟩))
  go_cut [26] (fun _ wc => Went w1 wc)
  case first =>
    go_wp2_with fail
    go_loopw [26] (fun k wr => ∃ j : Nat, j ≤ n ∧ k = .int .i64 j ∧ Went w1 wr) (fun k _ => n - (intOf k).toNat)
    case atStart => exact ⟨0, Nat.zero_le _, rfl, Below.refl _ _⟩
    case round =>
      obtain ⟨j, hj, rfl, hwent⟩ := hrel
      have hbw := hb1.trans (hwent.mono hb1.size)
      by_cases hlt : j < n
      · by_cases h500 : j < 500
        · rcases hs.below hbw with h | ⟨b, o, rfl, hbo, hc⟩
          · exfalso; have := congrArg List.length h; rw [length_numsV, HK.out] at this; simp at this; omega
          have hjl : j < K.length := by have := HK.out; omega
          have hcell : wr.cell? ⟨b, o + j, none⟩ = some (.int .u64 (K[j] : Int)) := hc j _ (by simp [numsV, numV]; exact ⟨_, List.getElem?_eq_getElem _, rfl⟩)
          have hx := hb K[j] (List.getElem_mem hjl)
          obtain ⟨x, hxe⟩ : ∃ x, x = K[j] := ⟨_, rfl⟩
          rw [← hxe] at hcell hx
          clear hc hxe
          cases hf : fitB x size with
          | false =>
            have Hf := Lib.hid hf
            clear hf
            go_wp2_with (first
              | (go_at_call 14; refine (set_long _ _ _ at_ size x _ hsz hs8 hs1 (by omega) hx Hf.out).mono ?_; rintro e w' ⟨rfl, rfl⟩))
            go_roundw
            case rel => exact ⟨j + 1, by omega, by go_num, hwent⟩
            case measure => simp [intOf]; omega
          | true =>
            have Hf := Lib.hid hf
            clear hf
            have hr6 := (hx5.below hbw).more hbw.size
            have hcell2 : ∀ w2, Below wr.heap.size wr w2 → w2.cell? ⟨b, o + j, none⟩ = some (.int .u64 (x : Int)) := fun w2 h2 => by
              rw [h2.cell (by have := hbw.size; show b < _; omega)]; exact hcell
            go_wp2_with fail
            refine (setr_ok X A m cb at_ size x wr HX.out hr6 hsz hs8 hs1 (by omega) hx Hf.out).mono ?_
            rintro e2 w2 ⟨A2, c2, hc2, rfl, hrd2, hb2⟩
            go_wp2_with fail
            refine (getr_ok X A2 m c2 _ at_ size x w2 HX.out hrd2 hc2 hsz hs8 hs1 (by omega) Hf.out).mono ?_
            rintro e3 w3 ⟨rfl, rfl⟩
            have hcell3 := hcell2 w2 hb2
            clear hcell hcell2
            go_wp2_with fail
            have hle : at_ + size ≤ X.length := by have := HX.out; omega
            have hle2 : at_ + (digs x size).length ≤ X.length := by rw [length_digs]; exact hle
            have hr7 := (hr6.below hb2).more hb2.size
            have hpl : (put X at_ (digs x size)).length = X.length := length_put _ _ _ hle2
            have t1 := hrd2.take at_
            have t2 := hr7.take at_
            have t3 := hrd2.drop (k := at_ + size) (c := c2) (by rw [length_bytesV, hpl]; exact hle) (by rw [length_bytesV, hpl, HX.out]; exact hc2)
            have t4 := hr7.drop (k := at_ + size) (c := cb) (by rw [length_bytesV]; exact hle) (by rw [length_bytesV, HX.out]; omega)
            rw [← bytesV_take, take_put _ _ _ hle2] at t1
            rw [← bytesV_take] at t2
            rw [← bytesV_drop, drop_put _ _ _ size (length_digs _ _).symm hle] at t3
            rw [← bytesV_drop] at t4
            have l1 : (X.take at_).length = at_ := by rw [List.length_take]; omega
            have l2 : (X.drop (at_ + size)).length = m - (at_ + size) := by rw [List.length_drop, HX.out]
            have cv1 := str_at (c := c2) t1 l1
            have cv2 := str_at (c := cb) t2 l1
            have cv3 := fun c => str_at (c := c) t3 l2
            have cv4 := fun c => str_at (c := c) t4 l2
            clear t1 t2 t3 t4 hrd2 hr6 hr7 hle2 l1 l2 hpl hle
            have hg1 : decide ((at_ : Int) < 0) = false := by simp
            have hg2 : decide ((size : Int) < 0) = false := by simp
            have hgt : decide ((m : Int) < (at_ : Int) + (size : Int)) = false := by simp; omega
            have hi0 : 0 ≤ (at_ : Int) := by omega
            have hi1 : (at_ : Int) ≤ (c2 : Int) := by omega
            have hi2 : (at_ : Int) ≤ (cb : Int) := by omega
            have hi3 : (at_ : Int) + (size : Int) ≤ (m : Int) := by omega
            have hsum0 : 0 ≤ (at_ : Int) + (size : Int) := by omega
            have hsumn : ((at_ : Int) + (size : Int)).toNat = at_ + size := by omega
            have hsum : IntKind.i64.wrap ((at_ : Int) + (size : Int)) = (at_ : Int) + (size : Int) := by rw [IntKind.wrap_i64]; omega
            by_cases e1 : c2 = at_ + size <;> by_cases e2 : cb = at_ + size
            · rw [if_pos e1] at cv3
              rw [if_pos e2] at cv4
              have cv3' := cv3 (c2 - (at_ + size))
              have cv4' := cv4 (cb - (at_ + size))
              clear cv3 cv4
              rw [e1, Nat.sub_self] at cv3'
              rw [e2, Nat.sub_self] at cv4'
              have e5 : m - (at_ + size) = 0 := by omega
              have cv3z := cv3'
              have cv4z := cv4'
              rw [e5] at cv3z cv4z
              clear e5
              subst e1
              subst e2
              go_quiet (fail)
              clear hg1 hg2 hgt hi0 hi1 hi2 hi3 hsum0 hsumn hsum
              go_wp2
              go_roundw
              case rel =>
                have hw2 := hwent.trans (hb2.mono hwent.size)
                exact ⟨j + 1, by omega, by go_num, hw2.os, hw2.tape, hw2.output, hw2.size, hw2.block⟩
              case measure => simp [intOf]; omega
            · rw [if_pos e1] at cv3
              rw [if_neg e2] at cv4
              have cv3' := cv3 (c2 - (at_ + size))
              have cv4' := cv4 (cb - (at_ + size))
              clear cv3 cv4
              rw [e1, Nat.sub_self] at cv3'
              have e5 : m - (at_ + size) = 0 := by omega
              have cv3z := cv3'
              have cv4z := cv4'
              rw [e5] at cv3z cv4z
              clear e5
              subst e1
              go_quiet (fail)
              clear hg1 hg2 hgt hi0 hi1 hi2 hi3 hsum0 hsumn hsum
              go_wp2
              go_roundw
              case rel =>
                have hw2 := hwent.trans (hb2.mono hwent.size)
                exact ⟨j + 1, by omega, by go_num, hw2.os, hw2.tape, hw2.output, hw2.size, hw2.block⟩
              case measure => simp [intOf]; omega
            · rw [if_neg e1] at cv3
              rw [if_pos e2] at cv4
              have cv3' := cv3 (c2 - (at_ + size))
              have cv4' := cv4 (cb - (at_ + size))
              clear cv3 cv4
              rw [e2, Nat.sub_self] at cv4'
              have e5 : m - (at_ + size) = 0 := by omega
              have cv3z := cv3'
              have cv4z := cv4'
              rw [e5] at cv3z cv4z
              clear e5
              subst e2
              go_quiet (fail)
              clear hg1 hg2 hgt hi0 hi1 hi2 hi3 hsum0 hsumn hsum
              go_wp2
              go_roundw
              case rel =>
                have hw2 := hwent.trans (hb2.mono hwent.size)
                exact ⟨j + 1, by omega, by go_num, hw2.os, hw2.tape, hw2.output, hw2.size, hw2.block⟩
              case measure => simp [intOf]; omega
            · rw [if_neg e1] at cv3
              rw [if_neg e2] at cv4
              have cv3' := cv3 (c2 - (at_ + size))
              have cv4' := cv4 (cb - (at_ + size))
              clear cv3 cv4
              go_quiet (fail)
              clear hg1 hg2 hgt hi0 hi1 hi2 hi3 hsum0 hsumn hsum
              go_wp2
              go_roundw
              case rel =>
                have hw2 := hwent.trans (hb2.mono hwent.size)
                exact ⟨j + 1, by omega, by go_num, hw2.os, hw2.tape, hw2.output, hw2.size, hw2.block⟩
              case measure => simp [intOf]; omega
        · go_wp2_with fail
          go_meet
          exact hwent
      · go_wp2_with fail
        go_meet
        exact hwent
  case rest =>
    have hs6 := (hs5.below (hb1.trans (hcut.mono hb1.size))).more (hb1.trans (hcut.mono hb1.size)).size
    rcases (show q = n ∧ n ≤ 500 ∨ q = 500 ∧ ¬ n ≤ 500 by have := Hq.out; omega) with ⟨rfl, hn5⟩ | ⟨rfl, hn5⟩
    all_goals
      clear Hq
      go_wp2_with fail
      refine (show Calls Try.prog 16 #[.int .i64 8, .slice B _ d] wc _ from lay_any M B _ d 8 wc HM.out hs6 (by omega) (by omega) hb5).mono ?_
      rintro e3 w3 hp
      obtain ⟨v3, rfl, hown3, hb3⟩ := hp.1 HL8.out
      rw [Hll.out] at hown3
      obtain ⟨_, A3, c3, rfl, hc3, _, hrd3⟩ := own_rd hown3
      clear hp hown3
      go_wp2_with fail
      refine (show Calls Try.prog 18 #[.int .i64 8, .slice A3 _ c3] w3 _ from take_ok (layl 8 M) A3 _ c3 _ 8 w3 Hll.out hrd3 hc3 (by omega) (by omega) rfl (by omega)).mono ?_
      rw [HT.out]
      rintro e4 w4 ⟨v4, rfl, hown4, hb4⟩
      rw [HM.out] at hown4
      obtain ⟨_, A4, c4, rfl, _, _, hrd4⟩ := own_rd hown4
      clear hown4
      have hb34 := hb3.trans (hb4.mono hb3.size)
      go_wp2_with fail
      refine (same_any M _ _ _ _ _ _ _ _ HM.out (by omega) hrd4 ((hs6.below hb34).more hb34.size)).mono ?_
      rintro e5 w5 ⟨rfl, k5, rfl⟩
      go_wp2_with fail
      go_ret
      have hbw := hb1.trans (hcut.mono hb1.size)
      have hbz := hbw.trans (hb34.mono hbw.size)
      exact ⟨rfl, hbz.os, hbz.tape, hbz.output, hbz.size, hbz.block⟩

theorem back_walk (l : List UInt8) (K : List Nat) (A B : Option Addr) (nb cb n d : Nat) (at_ size : Int) (w : World) (hl : l.length = nb) (hK : K.length = n) (hr : Rd w w.heap.size A (bytesV l)) (hs : Rd w w.heap.size B (numsV K))
    (hcb : nb ≤ cb) (hd : n ≤ d) (hcb63 : cb ≤ 9223372036854775807) (hd63 : d ≤ 9223372036854775807) (hb : ∀ x ∈ K, x < 18446744073709551616) :
    Calls Try.prog 7 #[.slice A nb cb, .int .i64 at_, .int .i64 size, .slice B n d] w fun e w' => e = .returned (.bool true) ∧ Below w.heap.size w w' := by
  by_cases h : 1 ≤ size ∧ size ≤ 8 ∧ 0 ≤ at_ ∧ at_ ≤ (min nb 5000 : Nat) - size
  · obtain ⟨h1, h2, h3, h4⟩ := h
    obtain ⟨a, rfl⟩ := Int.eq_ofNat_of_zero_le h3
    obtain ⟨k, rfl⟩ := Int.eq_ofNat_of_zero_le (show 0 ≤ size by omega)
    exact back_in l K A B nb cb n d a k w hl hK hr hs hcb hd hcb63 hd63 hb (by omega) (by omega) (by omega)
  · exact back_arg K A B nb cb n d at_ size w hK hs hcb hd hcb63 hd63 hb h

theorem back_contract (H : Type) (enc : TypeId × Value → H) (W : World) (base : Nat) (args : Array Value) (ds gs : List (DataW H)) (before : List MemPlace)
    (hval : ∀ (j : Nat) t v, Try.f7.params[j]? = some t → args[j]? = some v → Value.okWide Try.prog W .any base t v)
    (hW : DataW.Whole enc Try.prog Try.f7.params.toList Rows.fieldBackSpec.vars false W args.toList ds gs before) :
    Calls Try.prog 7 args W fun e W' => ∃ v, e = .returned v ∧ Rows.fieldBackSpec.post enc Try.prog Try.f7 false true false false W args v W' := by
  have hW' := hW
  have hlt : ∀ x ∈ before, x.block < W.heap.size := fun x hx => hW.lt x hx
  obtain ⟨p, q, hA0, hV, rfl, _, _⟩ := hW
  have hA : DataW.TrodAll enc Try.prog W 0 (fun _ => true) true Try.f7.params.toList args.toList ds p := hA0
  rw [Try.params7] at hA hval
  obtain ⟨v0, vs0, d0, ds0, p0, q0, hargs, rfl, rfl, h0, r0⟩ := trodAll_cons hA
  obtain ⟨v1, vs1, d1, ds1, p1, q1, rfl, rfl, rfl, h1, r1⟩ := trodAll_cons r0
  obtain ⟨v2, vs2, d2, ds2, p2, q2, rfl, rfl, rfl, h2, r2⟩ := trodAll_cons r1
  obtain ⟨v3, vs3, d3, ds3, p3, q3, rfl, rfl, rfl, h3, r3⟩ := trodAll_cons r2
  obtain ⟨rfl, rfl, rfl⟩ := trodAll_nil r3
  obtain rfl : args = #[v0, v1, v2, v3] := by cases args; simp_all
  obtain ⟨rfl, rfl⟩ := trodVars_none hV
  clear hA0
  obtain ⟨A0, n0, c0, l0, rfl, hn0, hc0, hm0, hr0⟩ := open_bytesL Try.underlying22 Try.underlying5 cells5 (hval 0 22 v0 rfl rfl) h0 (fun x hx => hlt x (by simp [hx]))
  unfold maxLen at hm0
  obtain ⟨a1, rfl, rfl, rfl, wa1⟩ := open_int Try.underlying3 (hval 1 3 v1 rfl rfl) h1
  have bd1 := bounds_i64 wa1
  obtain ⟨a2, rfl, rfl, rfl, wa2⟩ := open_int Try.underlying3 (hval 2 3 v2 rfl rfl) h2
  have bd2 := bounds_i64 wa2
  obtain ⟨A3, n3, c3, l3, rfl, hn3, hc3, hm3, hr3, hb3⟩ := open_numsL Try.underlying32 Try.underlying23 cells23 (hval 3 32 v3 rfl rfl) h3 (fun x hx => hlt x (by simp [hx]))
  unfold maxLen at hm3
  refine (back_walk l0 l3 A0 A3 n0 c0 n3 c3 a1 a2 W hn0 hn3 hr0 hr3 hc0 hc3 (by omega) (by omega) hb3).mono fun e W' ⟨he, hb⟩ => ?_
  subst he
  exact ⟨_, rfl, law_post laid (by kernel_rfl) Try.underlying4 (by rw [Try.params7]; decide +kernel) rfl hW' ⟨rfl, rfl, rfl⟩ hb⟩

set_option maxRecDepth 100000 in
theorem back_lifted (os : Os) (started : os.Started) (H : Type) (enc : TypeId × Value → H) :
    ReturnsInHanded {} Try.checked os 7 .any (Rows.fieldBackSpec.pre6 enc Try.prog Try.f7 Rows.fieldBackRow.domain false) (Rows.fieldBackSpec.post enc Try.prog Try.f7 false true false false) := by
  refine returnsInHanded_of_change (C := Try.checked) own started (by kernel_rfl) Try.func7
    (ChangeSpec.witness6 (enc := enc) (C := Try.checked) false ⟨#[], #[.slice none 0 0, .int .i64 0, .int .i64 0, .slice none 0 0], []⟩ 8 (by kernel_rfl) (by kernel_rfl) (by kernel_rfl) (by kernel_rfl)) ?_
  intro W base args ds gs before hval hW _ _
  exact back_contract H enc W base args ds gs before hval hW

/-- FieldBack is true for every input. -/
theorem back_holds : Rows.FieldBackSaid :=
  OpenClaim.holds_of_wide 7 Try.f7 rfl rfl rfl rfl rfl rfl rfl ⟨rfl, rfl, rfl, rfl, rfl⟩ rfl rfl rfl rfl rfl (by kernel_rfl) Try.func7 (by kernel_rfl)
    (of_decide_eq_true (by kernel_rfl)) (by unfold Func.isWrapper; first | (rw [if_pos (by decide +kernel)]; kernel_rfl) | (rw [if_neg (by decide +kernel)]; exact ⟨rfl, rfl⟩))
    (fun os started H enc _ => back_lifted os started H enc)
end Go.Proofs.Ytklhikekjfankaa
