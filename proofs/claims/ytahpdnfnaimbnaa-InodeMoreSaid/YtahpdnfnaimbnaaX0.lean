/-
  Pointers told: package inode's isUpTo and arePointers, the document's pointer; two lists of ints compared.
-/
import Derived.Test.YtahpdnfnaimbnaaA
import Derived.Deep.QuietTactic
namespace Go.Proofs.Ytahpdnfnaimbnaa.Inode
open Go.RowKit

theorem up_any (m x : Int) (w : World) : Calls Try.prog 32 #[.int .i64 m, .int .i64 x] w fun e w' => e = .returned (.bool (upB m x)) ∧ w = w' := by
  unfold upB
  by_cases h1 : 0 ≤ x
  · rw [decide_eq_true h1, Bool.true_and]
    go_enter Try.func32, Try.ntmps32
    go_wp2
    go_ret
    exact ⟨rfl, rfl⟩
  · rw [decide_eq_false h1, Bool.false_and]
    go_enter Try.func32, Try.ntmps32
    go_wp2
    go_ret
    exact ⟨rfl, rfl⟩
theorem ptr_any (x : Int) (w : World) : Calls Try.prog 34 #[.int .i64 x] w fun e w' => e = .returned (.bool (ptrB x)) ∧ w = w' := by
  unfold ptrB upB
  by_cases h1 : 0 ≤ x
  · rw [decide_eq_true h1, Bool.true_and]
    go_enter Try.func34, Try.ntmps34
    go_wp2
    go_ret
    exact ⟨rfl, rfl⟩
  · rw [decide_eq_false h1, Bool.false_and]
    go_enter Try.func34, Try.ntmps34
    go_wp2
    go_ret
    exact ⟨rfl, rfl⟩

theorem all_step {l : List Int} {k : Nat} {x : Int} (h : (l.take k).all ptrB = true) (hx : l[k]? = some x) (hp : ptrB x = true) : (l.take (k + 1)).all ptrB = true := by
  obtain ⟨hk, rfl⟩ := List.getElem?_eq_some_iff.1 hx
  rw [List.take_succ_eq_append_getElem hk, List.all_append, h]
  simp [hp]
theorem all_bad {l : List Int} {k : Nat} {x : Int} (hx : l[k]? = some x) (hp : ptrB x = false) : l.all ptrB = false := by
  rw [List.all_eq_false]
  exact ⟨x, List.mem_of_getElem? hx, by simp [hp]⟩

set_option maxHeartbeats 400000 in
theorem ptrs_any (l : List Int) (A : Option Addr) (n c B : Nat) (w : World) (hn : l.length = n) (hr : Rd w B A (intsV l)) (hm : n ≤ 9223372036854775807) :
    Calls Try.prog 33 #[.slice A n c] w fun e w' => e = .returned (.bool (l.all ptrB)) ∧ w = w' := by
  rcases rd_ints hr with h | ⟨b, o, rfl, _, hcc⟩
  · subst h
    obtain rfl : n = 0 := hn.symm
    clear hr hn
    go_enter Try.func33, Try.ntmps33
    go_wp2
    go_loop [7] (fun i => i = .int .i64 0) (fun _ => 0)
    case atStart => exact rfl
    case round =>
      obtain rfl := hrel
      go_wp2
      go_ret
      exact ⟨rfl, rfl⟩
  have Hn := Lib.hid hn
  have Hc := Lib.hid hcc
  clear hn hr hcc
  go_enter Try.func33, Try.ntmps33
  go_wp2
  go_loop [7] (fun i => ∃ k : Nat, k ≤ n ∧ i = .int .i64 (k : Int) ∧ Hid ((l.take k).all ptrB = true)) (fun i => n - (intOf i).toNat)
  case atStart => exact ⟨0, Nat.zero_le _, rfl, Lib.hid (by simp)⟩
  case round =>
    obtain ⟨k, hk, rfl, hall⟩ := hrel
    by_cases hlt : k < n
    · have h1 : k < l.length := by rw [Hn.out]; exact hlt
      obtain ⟨x, hx⟩ : ∃ x, l[k]? = some x := ⟨_, List.getElem?_eq_getElem h1⟩
      have c0 := Hc.out k x hx
      have Hx := Lib.hid hx
      clear hx h1
      cases hp : ptrB x
      · have Hp := Lib.hid (all_bad Hx.out hp)
        have Hq := Lib.hid (show upB 512 x = false from hp)
        clear hp
        go_wp2_with (go_at_call 32; (with_reducible refine (up_any 512 x _).mono ?_); rintro e w' ⟨he, hw'⟩; obtain rfl := he; obtain rfl := hw'; rw [Hq.out])
        go_ret
        exact ⟨by rw [Hp.out]; rfl, rfl⟩
      · have Hp := Lib.hid (all_step hall.out Hx.out hp)
        have Hq := Lib.hid (show upB 512 x = true from hp)
        clear hp
        go_wp2_with (go_at_call 32; (with_reducible refine (up_any 512 x _).mono ?_); rintro e w' ⟨he, hw'⟩; obtain rfl := he; obtain rfl := hw'; rw [Hq.out])
        go_round
        case rel => exact ⟨k + 1, by omega, by go_num, Hp⟩
        case measure => simp [intOf]; omega
    · obtain rfl : k = n := by omega
      have e : l.all ptrB = true := by
        have := hall.out
        rwa [List.take_of_length_le (by rw [Hn.out]; exact Nat.le_refl _)] at this
      have E := Lib.hid e
      clear e
      go_wp2
      go_ret
      exact ⟨by rw [E.out]; rfl, rfl⟩

set_option maxHeartbeats 400000 in
theorem same_true (l : List Int) (A A2 : Option Addr) (n c c2 : Nat) (B B2 : Nat) (w : World) (hn : l.length = n) (hr : Rd w B A (intsV l)) (hr2 : Rd w B2 A2 (intsV l)) (hm : n ≤ 9223372036854775807) :
    Calls Try.prog 19 #[.slice A n c, .slice A2 n c2] w fun e w' => e = .returned (.bool true) ∧ ∃ q, w' = w.drewN q := by
  have Hn := Lib.hid hn
  have h0 : l = [] → n = 0 := fun h => by rw [← hn, h]; rfl
  clear hn
  rcases rd_ints hr with h | ⟨b1, o1, rfl, _, hcc1⟩
  · obtain rfl := h0 h
    clear h h0 hr hr2
    go_enter Try.func19, Try.ntmps19
    go_wp2
    go_loop [5] (fun i => i = .int .i64 0) (fun _ => 0)
    case atStart => exact rfl
    case round =>
      obtain rfl := hrel
      go_wp2
      go_ret
      exact ⟨rfl, 0, rfl⟩
  rcases rd_ints hr2 with h | ⟨b2, o2, rfl, _, hcc2⟩
  · obtain rfl := h0 h
    clear h h0 hr hr2 hcc1
    go_enter Try.func19, Try.ntmps19
    go_wp2
    go_loop [5] (fun i => i = .int .i64 0) (fun _ => 0)
    case atStart => exact rfl
    case round =>
      obtain rfl := hrel
      go_wp2
      go_ret
      exact ⟨rfl, 0, rfl⟩
  have Hc1 := Lib.hid hcc1
  have Hc2 := Lib.hid hcc2
  clear hcc1 hcc2 hr hr2 h0
  have hnn : ((n : Int) != (n : Int)) = false := by simp
  go_enter Try.func19, Try.ntmps19
  go_wp2
  go_loopw [5] (fun i wr => ∃ k : Nat, k ≤ n ∧ i = .int .i64 (k : Int) ∧ ∃ q, wr = w.drewN q) (fun i _ => n - (intOf i).toNat)
  case atStart => exact ⟨0, Nat.zero_le _, rfl, 0, rfl⟩
  case round =>
    obtain ⟨k, hk, rfl, q, rfl⟩ := hrel
    by_cases hlt : k < n
    · have h1 : k < l.length := by rw [Hn.out]; exact hlt
      have hcell := Hc1.out k _ (List.getElem?_eq_getElem h1)
      have hcell2 := Hc2.out k _ (List.getElem?_eq_getElem h1)
      generalize l[k] = x at hcell hcell2
      have hxx : (x != x) = false := by simp
      have hk0 : (0 : Int) ≤ (k : Int) := Int.natCast_nonneg _
      have hk1 : (k : Int) < (n : Int) := by omega
      go_wp2
      go_quiet (fail)
      go_wp2
      go_roundw
      case rel => exact ⟨k + 1, by omega, by go_num, q + nq, by first | rfl | rw [World.drewN_drewN]⟩
      case measure => simp [intOf]; omega
    · go_wp2
      go_ret
      exact ⟨rfl, q, rfl⟩
end Go.Proofs.Ytahpdnfnaimbnaa.Inode
