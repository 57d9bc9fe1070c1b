/-
  How many hold an inode: the document's answer, and the program's.
  No condition is set.
-/
import Derived.Test.YtnahccdjeilboaaWt
namespace Go.Proofs.Ytnahccdjeilboaa.Prc
open Go.RowKit Apart
attribute [local go_sem ↓] Go.wp_at_zero Go.wp_at_succ

theorem hit_some (i : Int) (x : Int × Int) : hit i (some x) = decide (x.1 = i) := rfl
theorem hit_none (i : Int) : hit i none = false := rfl
theorem cnt_none {t : Tb} {i : Int} {m : Nat} (h : t.fil m = none) : cnt t i (m + 1) = cnt t i m := by
  rw [cnt_succ, h]
  rfl
theorem cnt_yes {t : Tb} {m : Nat} {x : Int × Int} (h : t.fil m = some x) : cnt t x.1 (m + 1) = cnt t x.1 m + 1 := by
  rw [cnt_succ, h, hit_some]
  simp
theorem cnt_no {t : Tb} {i : Int} {m : Nat} {x : Int × Int} (h : t.fil m = some x) (hx : ¬ x.1 = i) : cnt t i (m + 1) = cnt t i m := by
  rw [cnt_succ, h, hit_some]
  simp [hx]
section
variable {w : World} {b r : Nat} {t : Tb} {G : Nat → Option Nat} {P : Nat → Prop}
set_option maxRecDepth 100000 in
set_option maxHeartbeats 1600000 in
theorem rholds_any (h : RefG b r t w) (ht : t.Ok) (i : Int) : Calls Try.prog 18 #[.pointer (some ⟨b, 0, none⟩), .int .i64 i] w fun e w' => e = .returned (.int .i64 (holdsA t i : Int)) ∧ w = w' := by
  rw [holds_some ht i]
  have hc := h.c0
  have hn8 := ht.hi
  have HO := Lib.hid (fun q k (hq : q < t.n) (hk : k < 8) => h.on hq hk)
  have HI := Lib.hid (fun q k x (hq : q < t.n) (hk : k < 8) (hx : t.fil (q * 8 + k) = some x) => h.ino hq hk hx)
  have HL := Lib.hid (fun m => cnt_le t i m)
  obtain ⟨n, hn⟩ : ∃ n, n = t.n := ⟨_, rfl⟩
  rw [← hn] at hc hn8 HO HI ⊢
  have Hn := Lib.hid hn
  clear hn
  go_enter Try.func18, Try.ntmps18
  go_wp2
  go_loop [5, 6, 7] (fun c p _ => ∃ q : Nat, q ≤ n ∧ p = .int .i64 (q : Int) ∧ c = .int .i64 (cnt t i (q * 8) : Int)) (fun _ p _ => n - (intOf p).toNat)
  case atStart => exact ⟨0, Nat.zero_le _, rfl, rfl⟩
  case round =>
    obtain ⟨q, hq, rfl, rfl⟩ := hrel
    by_cases hlt : q < n
    · have hlt2 : (q : Int) < (n : Int) := by omega
      go_wp2
      go_loop [5, 7] (fun c k => ∃ j : Nat, j ≤ 8 ∧ k = .int .i64 (j : Int) ∧ c = .int .i64 (cnt t i (q * 8 + j) : Int)) (fun _ k => 8 - (intOf k).toNat)
      case atStart => exact ⟨0, Nat.zero_le _, rfl, rfl⟩
      case round =>
        obtain ⟨j, hj, rfl, rfl⟩ := hrel
        by_cases h8 : j < 8
        · have h82 : (j : Int) < 8 := by omega
          have hon := HO.out q j hlt h8
          have hle := HL.out (q * 8 + j)
          cases hf : t.fil (q * 8 + j) with
          | none =>
            rw [hf] at hon
            simp only [Option.isSome_none] at hon
            have HC := Lib.hid (cnt_none (i := i) hf)
            clear hf
            go_wp2
            go_round
            case rel => exact ⟨j + 1, by omega, by go_num, by rw [← Nat.add_assoc, HC.out]⟩
            case measure => simp [intOf]; omega
          | some x =>
            have hin := HI.out q j x hlt h8 hf
            rw [hf] at hon
            simp only [Option.isSome_some] at hon
            obtain ⟨x1, x2⟩ := x
            have hin : w.cell? ⟨r, q * 25 + 1 + j * 3 + 1, none⟩ = some (.int .i64 x1) := hin
            by_cases hx : x1 = i
            · subst hx
              have HC := Lib.hid (cnt_yes hf)
              clear hf
              generalize cnt t x1 (q * 8 + j) = c at *
              go_wp2
              go_round
              case rel => exact ⟨j + 1, by omega, by go_num, by rw [← Nat.add_assoc, HC.out]; go_num⟩
              case measure => simp [intOf]; omega
            · have HC := Lib.hid (cnt_no (i := i) hf hx)
              clear hf
              go_wp2
              go_round
              case rel => exact ⟨j + 1, by omega, by go_num, by rw [← Nat.add_assoc, HC.out]⟩
              case measure => simp [intOf]; omega
        · obtain rfl : j = 8 := by omega
          go_wp2
          go_round
          case rel => exact ⟨q + 1, by omega, by go_num, by rw [Nat.add_mul, Nat.one_mul]⟩
          case measure => simp [intOf]; omega
    · obtain rfl : q = n := by omega
      go_wp2
      go_ret
      exact ⟨rfl, rfl⟩
end
end Go.Proofs.Ytnahccdjeilboaa.Prc
