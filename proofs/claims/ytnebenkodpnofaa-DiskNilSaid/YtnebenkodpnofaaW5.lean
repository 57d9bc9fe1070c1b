/-
  The acts that came in, and the first few of them; what a nil disk answers.
-/
import Derived.Test.YtnebenkodpnofaaF
namespace Go.Proofs.Ytnebenkodpnofaa
open Go.RowKit
attribute [local go_sem ↓] Go.wp_at_zero Go.wp_at_succ

/-- What is done. -/
structure Act where
  kind : Nat
  at_ : Int
  c : Nat
  bA : Option Addr
  bn : Nat
  bc : Nat
  tag : Int
  there : Nat
structure Act.Good (a : Act) : Prop where
  kind : a.kind < 256
  c : a.c < 256
  there : a.there < 18446744073709551616
  bc : a.bn ≤ a.bc
/-- Its cells. -/
def Act.cells (a : Act) : List Value := [.int .u8 (a.kind : Int), .int .i64 a.at_, .int .u8 (a.c : Int), .slice a.bA a.bn a.bc, .int .u16 a.tag, .int .u64 (a.there : Int)]
/-- A slice of them. -/
def Acts (w : World) (B : Nat) (A : Option Addr) (l : List Act) : Prop :=
  l = [] ∨ ∃ b o, A = some ⟨b, o, none⟩ ∧ b < B ∧ ∀ i a, l[i]? = some a → a.Good ∧ ∀ j u, a.cells[j]? = some u → w.cell? ⟨b, o + i * 6 + j, none⟩ = some u
theorem Acts.below {w w' : World} {B : Nat} {A : Option Addr} {l : List Act} (h : Acts w B A l) (hb : Below B w w') : Acts w' B A l := by
  rcases h with h | ⟨b, o, h1, h2, h3⟩
  · exact .inl h
  · exact .inr ⟨b, o, h1, h2, fun i a hi => ⟨(h3 i a hi).1, fun j u hu => (hb.cell h2).trans ((h3 i a hi).2 j u hu)⟩⟩
theorem Acts.more {w : World} {B B' : Nat} {A : Option Addr} {l : List Act} (h : Acts w B A l) (hB : B ≤ B') : Acts w B' A l := by
  rcases h with h | ⟨b, o, h1, h2, h3⟩
  · exact .inl h
  · exact .inr ⟨b, o, h1, by omega, h3⟩
theorem Acts.at {w : World} {B : Nat} {A : Option Addr} {l : List Act} (h : Acts w B A l) {i : Nat} (hi : i < l.length) : ∃ b o a, A = some ⟨b, o, none⟩ ∧ b < B ∧ l[i]? = some a ∧ a.Good ∧
    w.cell? ⟨b, o + i * 6, none⟩ = some (.int .u8 (a.kind : Int)) ∧ w.cell? ⟨b, o + i * 6 + 1, none⟩ = some (.int .i64 a.at_) ∧ w.cell? ⟨b, o + i * 6 + 2, none⟩ = some (.int .u8 (a.c : Int)) ∧ w.cell? ⟨b, o + i * 6 + 3, none⟩ = some (.slice a.bA a.bn a.bc) ∧ w.cell? ⟨b, o + i * 6 + 4, none⟩ = some (.int .u16 a.tag) ∧ w.cell? ⟨b, o + i * 6 + 5, none⟩ = some (.int .u64 (a.there : Int)) := by
  rcases h with rfl | ⟨b, o, h1, h2, h3⟩
  · simp at hi
  · obtain ⟨hg, hc⟩ := h3 i _ (List.getElem?_eq_getElem hi)
    exact ⟨b, o, _, h1, h2, List.getElem?_eq_getElem hi, hg, hc 0 _ rfl, hc 1 _ rfl, hc 2 _ rfl, hc 3 _ rfl, hc 4 _ rfl, hc 5 _ rfl⟩

set_option maxHeartbeats 400000 in
theorem few_any (l : List Act) (A : Option Addr) (n c : Nat) (w : World) (hn : l.length = n) (hc : n ≤ c) (hm : c ≤ 9223372036854775807) (hr : Acts w w.heap.size A l) :
    Calls Try.prog 10 #[.slice A n c] w fun e w' => ∃ q, e = .returned (.slice A q c) ∧ q ≤ n ∧ q ≤ 120 ∧ w = w' := by
  have Hr := Lib.hid hr
  have Hn := Lib.hid hn
  clear hr hn
  go_enter Try.func10, Try.ntmps10
  go_wp2
  go_loopw [6] (fun i wr => ∃ j : Nat, j ≤ n ∧ j ≤ 120 ∧ i = .int .i64 (j : Int) ∧ wr = w) (fun i _ => n - (intOf i).toNat)
  case atStart => exact ⟨0, Nat.zero_le _, Nat.zero_le _, rfl, rfl⟩
  case round =>
    obtain ⟨j, hj, hj2, rfl, rfl⟩ := hrel
    by_cases hlt : j < n
    · obtain ⟨b, o, a, rfl, hb, ha, hg, c0, c1, c2, c3, c4, c5⟩ := Hr.out.at (i := j) (by rw [Hn.out]; exact hlt)
      have Ha := Lib.hid ha
      have Hg := Lib.hid hg
      clear ha hg c0 c1 c2 c4 c5 hb
      by_cases h120 : 120 ≤ j
      · obtain rfl : j = 120 := by omega
        clear c3
        go_wp2
        go_ret
        exact ⟨120, rfl, by omega, by omega, rfl⟩
      · have hi : ¬ ((120 : Int) ≤ (j : Int)) := by omega
        by_cases h200 : 200 < a.bn
        · have h2 : (200 : Int) < (a.bn : Int) := by omega
          go_wp2
          go_ret
          exact ⟨j, rfl, by omega, by omega, rfl⟩
        · have h2 : ¬ ((200 : Int) < (a.bn : Int)) := by omega
          go_wp2
          go_roundw
          case rel => exact ⟨j + 1, by omega, by omega, by go_num, by first | trivial | rfl⟩
          case measure => simp [intOf]; omega
    · obtain rfl : j = n := by omega
      go_wp2
      go_ret
      exact ⟨j, rfl, by omega, by omega, rfl⟩

theorem dead_nil (w : World) : Calls Try.prog 19 #[.pointer none] w fun e w' => e = .returned (.bool false) ∧ w = w' := by
  go_enter Try.func19, Try.ntmps19
  go_wp2
  go_ret
  exact ⟨rfl, rfl⟩
theorem done_nil (w : World) : Calls Try.prog 20 #[.pointer none] w fun e w' => e = .returned (.int .i64 0) ∧ w = w' := by
  go_enter Try.func20, Try.ntmps20
  go_wp2
  go_ret
  exact ⟨rfl, rfl⟩
theorem len_nil (w : World) : Calls Try.prog 21 #[.pointer none] w fun e w' => e = .returned (.int .i64 0) ∧ w = w' := by
  go_enter Try.func21, Try.ntmps21
  go_wp2
  go_ret
  exact ⟨rfl, rfl⟩
theorem copy_nil (w : World) : Calls Try.prog 22 #[.pointer none] w fun e w' => e = .returned (.pointer none) ∧ w = w' := by
  go_enter Try.func22, Try.ntmps22
  go_wp2
  go_ret
  exact ⟨rfl, rfl⟩

end Go.Proofs.Ytnebenkodpnofaa
