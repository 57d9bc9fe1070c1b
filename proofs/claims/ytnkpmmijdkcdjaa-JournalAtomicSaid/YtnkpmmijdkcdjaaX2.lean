/-
  The one patch that makes a head.
-/
import Derived.Test.YtnkpmmijdkcdjaaX1
import Derived.Deep.RegionWith
namespace Go.Proofs.Ytnkpmmijdkcdjaa
open Go.RowKit
attribute [local go_sem ↓] Go.wp_at_zero Go.wp_at_succ

theorem made_slice {w w' : World} {l : List UInt8} {v : Value} {n : Nat} (h : Made w l v w') (hl : l.length = n) (h0 : 0 < n) : ∃ g c, v = .slice (some ⟨g, 0, none⟩) n c ∧ n ≤ c ∧ w.heap.size ≤ g ∧ g < w'.heap.size ∧ w'.rangeAt g 0 (bytesV l) := by
  subst hl
  obtain ⟨_, hn⟩ := h.1
  rcases hn with ⟨_, h1⟩ | ⟨g, c, cur, rfl, h1, h2, h3, h4, h5, h6⟩
  · omega
  · have hlt : g < w'.heap.size := (Array.getElem?_eq_some_iff.1 h2).1
    refine ⟨g, c, rfl, h3, h1, hlt, fun j u hu => ?_⟩
    have hj := (List.getElem?_eq_some_iff.1 hu).1
    rw [length_bytesV] at hj
    rw [cell_of_row _ g _ cur _ (0, 0) h2, Nat.zero_add, ← hu, ← h6, List.getElem?_take, if_pos (by omega)]
    simp

/-- One patch, just made. -/
theorem pats_one (w1 : World) (T : Nat → Prop) (g1 cc : Nat) (at_ : Int) (c : Sx) (hT : T w1.heap.size) (hg : T g1) (hlt : g1 < w1.heap.size) (hcc : 64 ≤ cc) (hr : w1.rangeAt g1 0 (bytesV c.b)) :
    Pats (w1.alloc (.cells #[.int .i64 at_, .slice (some ⟨g1, 0, none⟩) 64 cc, .int .u16 (c.t : Int)] 49)) T (some ⟨w1.heap.size, 0, none⟩) [(at_, c)] := fun i p hp => by
  cases i with
  | succ i => simp at hp
  | zero =>
    obtain rfl : (at_, c) = p := by simpa using hp
    have hB := Bk.new w1 49 [.int .i64 at_, .slice (some ⟨g1, 0, none⟩) 64 cc, .int .u16 (c.t : Int)]
    exact ⟨w1.heap.size, 0, g1, 0, cc, rfl, hT, hg, by simp, by simp; omega, hcc, hB.cell 0, hB.cell 1, hB.cell 2, World.rangeAt_alloc hr _⟩

set_option maxHeartbeats 800000 in
theorem head_any (w : World) (bj b start n sq seq cnt : Nat) (hJ : JB w bj b start n sq) (hs : seq < 18446744073709551616) (hn : cnt < 65536) :
    Calls Try.prog 34 #[.pointer (some ⟨bj, 0, none⟩), .int .u64 (seq : Int), .int .i64 (cnt : Int)] w fun e w' => ∃ g, e = .returned (.slice (some ⟨g, 0, none⟩) 1 1) ∧ Pats w' (fun i => w.heap.size ≤ i) (some ⟨g, 0, none⟩) [((start : Int), headS seq cnt)] ∧ Below w.heap.size w w' := by
  have c1 := hJ.cell 1
  have hlt := hJ.lt
  have Hs := Lib.hid hs
  have Hn := Lib.hid hn
  have Hlt := Lib.hid hlt
  clear hJ hs hn hlt
  go_enter Try.func34, Try.ntmps34
  go_wp2
  go_region_with (first | (go_at_call 40; (refine (headOf_any seq cnt Hs.out Hn.out _).mono ?_); rintro e w1 ⟨v1, rfl, hM1⟩; have hb1 := Lib.hid hM1.2; obtain ⟨g1, cc, rfl, hcc, hg1, hg1', hr1⟩ := made_slice hM1 (length_headB _ _) (by omega); have HR := Lib.hid hr1; have c1' := (hM1.2.cell (p := ⟨bj, 1, none⟩) Hlt.out).trans (by assumption); clear hM1))
  all_goals (clear c1; clear hr1; go_wp2)
  all_goals go_ret
  all_goals refine ⟨w1.heap.size, rfl, pats_one w1 _ g1 cc _ (headS seq cnt) (Nat.le_trans hb1.out.size (Nat.le_refl _)) hg1 hg1' hcc HR.out, ?_⟩
  all_goals exact ((Below.refl _ w).drew.trans hb1.out).alloc hb1.out.size _
end Go.Proofs.Ytnkpmmijdkcdjaa
