/-
  The small functions of package field and of the document's own answer (tests of sizes and places, powers of 256, the number that stands at a place): what each call returns.
-/
import Derived.Test.YtahpdnfnaimbnaaRows
import Derived.Test.YtahpdnfnaimbnaaL
import Derived.WalkKit
import Derived.WalkSpells
import Derived.BigQuiet
import Derived.Deep.QuietTactic
import Derived.Lib.Hide
namespace Go.Proofs.Ytahpdnfnaimbnaa
open Go.RowKit

theorem isSize_true (n : Int) (w : World) (h1 : 1 ≤ n) (h2 : n ≤ 8) :
    Calls Try.prog 43 #[.int .i64 n] w fun e w' => e = .returned (.bool true) ∧ w = w' := by
  go_enter Try.func43, Try.ntmps43
  go_wp2
  go_ret
  exact ⟨rfl, rfl⟩
theorem isSize_false (n : Int) (w : World) (h : ¬ (1 ≤ n ∧ n ≤ 8)) :
    Calls Try.prog 43 #[.int .i64 n] w fun e w' => e = .returned (.bool false) ∧ w = w' := by
  by_cases h1 : 1 ≤ n
  · have h2 : ¬ n ≤ 8 := fun h2 => h ⟨h1, h2⟩
    clear h
    go_enter Try.func43, Try.ntmps43
    go_wp2
    go_ret
    exact ⟨rfl, rfl⟩
  · clear h
    go_enter Try.func43, Try.ntmps43
    go_wp2
    go_ret
    exact ⟨rfl, rfl⟩

theorem fits_any (n size : Nat) (w : World) (_h1 : n < 18446744073709551616) (hs : 1 ≤ size) (hs2 : size ≤ 8) :
    Calls Try.prog 44 #[.int .u64 n, .int .i64 size] w fun e w' => e = .returned (.bool (fitB n size)) ∧ w = w' := by
  go_enter Try.func44, Try.ntmps44
  go_wp2
  go_ret
  exact ⟨by rw [← fit_shift]; rfl, rfl⟩

set_option maxHeartbeats 400000 in
theorem load_any (l : List UInt8) (A : Option Addr) (n c : Nat) (B : Nat) (size : Nat) (w : World) (hn : l.length = n) (hr : Rd w B A (bytesV l)) (hs : size ≤ n) (hs8 : size ≤ 8) (hs1 : 1 ≤ size) :
    Calls Try.prog 46 #[.slice A n c, .int .i64 size] w fun e w' => e = .returned (.int .u64 (le (l.take size) : Nat)) ∧ w = w' := by
  rcases hr with h | ⟨b, o, rfl, hb, hc⟩
  · exfalso; simp [bytesV] at h; subst h; simp at hn; omega
  have Hn := Lib.hid hn
  clear hn
  go_enter Try.func46, Try.ntmps46
  go_wp2
  go_loop [5, 8] (fun x k => ∃ j : Nat, j ≤ size ∧ k = .int .i64 j ∧ x = .int .u64 (le (l.take j) : Nat)) (fun _ k => size - (intOf k).toNat)
  case atStart => exact ⟨0, Nat.zero_le _, rfl, rfl⟩
  case round =>
    obtain ⟨j, hj, rfl, rfl⟩ := hrel
    by_cases hlt : j < size
    · have hjl : j < l.length := by have := Hn.out; omega
      have hcell : w.cell? ⟨b, o + j, none⟩ = some (.int .u8 (l[j].toNat : Int)) := hc j _ (by simp [bytesV, byteV]; exact ⟨_, List.getElem?_eq_getElem _, rfl⟩)
      have HS := Lib.hid (load_step l j hjl (by omega))
      clear hc
      go_wp2
      go_round
      case rel => exact ⟨j + 1, by omega, by go_num, by rw [HS.out]⟩
      case measure => simp [intOf]; omega
    · go_wp2
      go_ret
      have : j = size := by omega
      subst this
      exact ⟨rfl, rfl⟩

set_option maxHeartbeats 400000 in
theorem at_any (l : List UInt8) (A : Option Addr) (n c : Nat) (B : Nat) (at_ size : Nat) (w : World) (hn : l.length = n) (hr : Rd w B A (bytesV l)) (hs : at_ + size ≤ n) (hs8 : size ≤ 8) (hs1 : 1 ≤ size) (hm : n ≤ 9223372036854775807) :
    Calls Try.prog 38 #[.slice A n c, .int .i64 at_, .int .i64 size] w fun e w' => e = .returned (.int .u64 (le ((l.drop at_).take size) : Nat)) ∧ w = w' := by
  rcases hr with h | ⟨b, o, rfl, hb, hc⟩
  · exfalso; simp [bytesV] at h; subst h; simp at hn; omega
  have Hn := Lib.hid hn
  clear hn
  go_enter Try.func38, Try.ntmps38
  go_wp2
  go_loop [7, 8] (fun x k => ∃ j : Nat, j ≤ size ∧ k = .int .i64 ((j : Int) - 1) ∧ x = .int .u64 (le (((l.drop at_).take size).drop j) : Nat)) (fun _ k => ((intOf k) + 1).toNat)
  case atStart => exact ⟨size, Nat.le_refl _, rfl, by simp [le]⟩
  case round =>
    obtain ⟨j, hj, rfl, rfl⟩ := hrel
    by_cases hlt : 0 < j
    · obtain ⟨i, rfl⟩ : ∃ i, j = i + 1 := ⟨j - 1, by omega⟩
      have hjl : at_ + i < l.length := by have := Hn.out; omega
      have hcell : w.cell? ⟨b, o + (at_ + i), none⟩ = some (.int .u8 (l[at_ + i].toNat : Int)) := hc (at_ + i) _ (by simp [bytesV, byteV]; exact ⟨_, List.getElem?_eq_getElem _, rfl⟩)
      have HS := Lib.hid (at_step ((l.drop at_).take size) i l[at_ + i] (by rw [List.getElem?_take_of_lt (by omega), List.getElem?_drop, List.getElem?_eq_getElem hjl]) (by simp; omega))
      clear hc
      go_wp2
      go_round
      case rel => exact ⟨i, by omega, rfl, by rw [HS.out]⟩
      case measure => simp [intOf]
    · go_wp2
      go_ret
      obtain rfl : j = 0 := by omega
      exact ⟨rfl, rfl⟩
end Go.Proofs.Ytahpdnfnaimbnaa
