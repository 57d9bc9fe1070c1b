/-
  slices.Chunk over patches: its closure's contract.
-/
import Derived.Test.YtnkpmmijdkcdjaaX4
import Derived.RangeFuncNested
import Derived.RangeFuncBound
import Derived.RangeFuncCalls
import Derived.RangeFuncLeaves
import Derived.Shelf.Abstract
import Derived.OwnWalkIn
import Derived.TacticsInMore
import Derived.LoopNIn
import Derived.LoopIn
import Derived.BigRegionIn
namespace Go.Proofs.Ytnkpmmijdkcdjaa
open Go.RowKit Go.Shelf

attribute [local go_sem] Oper.semAt_some

/-- The two boxes that the closure reads lie as they lay. -/
def Two (B1 B2 : Nat) (W W' : World) : Prop := W'.heap[B1]? = W.heap[B1]? ∧ W'.heap[B2]? = W.heap[B2]?
theorem Two.refl (B1 B2 : Nat) (W : World) : Two B1 B2 W W := ⟨rfl, rfl⟩
theorem Two.trans {B1 B2 : Nat} {A B C : World} (h : Two B1 B2 A B) (k : Two B1 B2 B C) : Two B1 B2 A C := ⟨k.1.trans h.1, k.2.trans h.2⟩
theorem Two.drew {B1 B2 : Nat} {A B : World} (h : Two B1 B2 A B) : Two B1 B2 A B.drew := h
theorem Two.one {B1 B2 : Nat} {A B : World} (h : Two B1 B2 A B) : B.cell? ⟨B1, 0, none⟩ = A.cell? ⟨B1, 0, none⟩ := World.cell?_of_block (a := ⟨B1, 0, none⟩) h.1
theorem Two.two {B1 B2 : Nat} {A B : World} (h : Two B1 B2 A B) : B.cell? ⟨B2, 0, none⟩ = A.cell? ⟨B2, 0, none⟩ := World.cell?_of_block (a := ⟨B2, 0, none⟩) h.2
theorem Two.below {B1 B2 B : Nat} {W W' : World} (h : Below B W W') (h1 : B1 < B) (h2 : B2 < B) : Two B1 B2 W W' := ⟨h.block B1 h1, h.block B2 h2⟩
/-- The value of a chunk. -/
def chunkV (b o m c : Nat) : Value := .slice (some ⟨b, o + 15 * c * 3, none⟩) (min 15 (m - 15 * c)) (min 15 (m - 15 * c))

set_option maxRecDepth 100000 in
set_option maxHeartbeats 2000000 in
theorem chunk1_in (n : Nat) (hn : 1 ≤ n) (l B1 B2 b o m cp : Nat) (hm : m ≤ 1000000) (hcp : m ≤ cp) (J Jx : List Nat → World → Prop) (hJd : ∀ pre W, J pre W → J pre W.drew)
    (hY : ∀ pre x W, J pre W → 15 * pre.length < m → 15 * x < m → YieldAt Fence.wide (n - 1) Try.prog l #[chunkV b o m x] W fun e W' =>
      (e = .returned (.bool true) ∧ J (pre ++ [x]) W' ∧ Two B1 B2 W W') ∨ (e = .returned (.bool false) ∧ Jx (pre ++ [x]) W'))
    (W : World) (h1 : W.cell? ⟨B1, 0, none⟩ = some (.slice (some ⟨b, o, none⟩) m cp)) (h2 : W.cell? ⟨B2, 0, none⟩ = some (.int .i64 15)) (h0 : J [] W) :
    CallsIn Fence.wide n Try.prog 56 #[.func (.yield l) #[] #[], .pointer (some ⟨B1, 0, none⟩), .pointer (some ⟨B2, 0, none⟩)] W fun e W' => (∃ v, e = .returned v) ∧
      ((∃ ys, ys = List.range ((m + 14) / 15) ∧ J ys W') ∨ (∃ pre, True ∧ Jx pre W')) := by
  refine callsIn_of_wp Try.func56 rfl trivial ?_ rfl
  simp only [Try.ntmps56, List.size_toArray, List.length_cons, List.length_nil, Nat.reduceAdd, Nat.reduceSub, Array.replicate_succ, Array.replicate_zero, List.push_toArray, List.append_toArray, List.nil_append, List.cons_append]
  gi_wp2
  gi_loopw [4, 5] (fun i _ wr => ∃ k : Nat, (k = 0 ∨ 15 * (k - 1) < m) ∧ i = .int .i64 ((15 * k : Nat) : Int) ∧ J (List.range k) wr ∧ Two B1 B2 W wr)
    (fun i _ _ => m - (intOf i).toNat)
  case atStart => exact ⟨0, .inl rfl, rfl, h0, Two.refl _ _ _⟩
  case round =>
    obtain ⟨k, hk, rfl, hJs, hnx⟩ := hrel
    have c1 := hnx.one.trans h1
    have c2 := hnx.two.trans h2
    obtain ⟨i, hi⟩ : ∃ i, i = 15 * k := ⟨_, rfl⟩
    rw [← hi]
    have Hi := Lib.hid hi
    have HJ := Lib.hid hJs
    have Hnx := Lib.hid hnx
    have Hk := Lib.hid hk
    clear hi hJs hnx hk
    by_cases hlt : i < m
    · obtain ⟨fn, tmps, assign, body, hy, hR⟩ := hY (List.range k) k wr.drew (hJd _ _ HJ.out) (by rw [List.length_range]; have := Hi.out; omega) (by have := Hi.out; omega)
      obtain ⟨e, he⟩ : ∃ e : Nat, e = min 15 (m - i) := ⟨_, rfl⟩
      have hif : (if ((m - i : Nat) : Int) < 15 then ((m - i : Nat) : Int) else 15) = (e : Int) := by
        split <;> omega
      have hchunk : chunkV b o m k = .slice (some ⟨b, o + i * 3, none⟩) e e := by
        unfold chunkV
        rw [← Hi.out, ← he]
      rw [hchunk] at hy
      have hei : (i : Int) + (e : Int) ≤ (m : Int) := by omega
      have he1 : 0 < e := by omega
      have He := Lib.hid he
      have Hif := Lib.hid hif
      clear hchunk he hif
      gi_wp2
      gi_region
      all_goals rw [Hif.out]
      all_goals gi_wp2
      refine hR.mono ?_
      rintro e W3 (⟨rfl, hJ3, hk3⟩ | ⟨rfl, hJx3⟩)
      · have c3 := hk3.two.trans c2
        have A1 : Hid (J (List.range (k + 1)) W3) := by
          show J _ _
          rw [List.range_succ]; exact hJ3
        have A2 : Hid (Two B1 B2 W W3) := Hnx.out.drew.trans hk3
        clear hJ3 hk3 c1 c2
        have h15 : (i : Int) + 15 = ((15 * (k + 1) : Nat) : Int) := by have := Hi.out; omega
        have H15 := Lib.hid h15
        clear h15
        gi_wp2
        go_roundw
        case rel => exact ⟨k + 1, .inr (by have := Hi.out; omega), by rw [H15.out], A1.out, A2.out⟩
        case measure => simp [intOf]; omega
      · gi_wp2
        refine bodyPost_ret (results_none rfl _ _ _) rfl ?_
        exact ⟨⟨_, rfl⟩, .inr ⟨_, trivial, hJx3⟩⟩
    · have hkk : k = (m + 14) / 15 := by have := Hi.out; have := Hk.out; omega
      gi_wp2
      go_end0
      exact ⟨⟨_, rfl⟩, .inl ⟨_, by rw [hkk], HJ.out⟩⟩

/-- slices.Chunk(l, 15). -/
theorem chunk_in (n : Nat) (A : Option Addr) (m c : Nat) (w : World) :
    CallsIn Fence.wide n Try.prog 47 #[.slice A m c, .int .i64 15] w fun e w' => e = .returned (.func (.func 56) #[] #[.pointer (some ⟨w.heap.size, 0, none⟩), .pointer (some ⟨w.heap.size + 1, 0, none⟩)]) ∧
      w' = (w.alloc (.cells #[.slice A m c] 45)).alloc (.cells #[.int .i64 15] 3) := by
  refine callsIn_of_wp Try.func47 rfl trivial ?_ rfl
  simp only [Try.ntmps47, List.size_toArray, List.length_cons, List.length_nil, Nat.reduceAdd, Nat.reduceSub, Array.replicate_succ, Array.replicate_zero, List.push_toArray, List.append_toArray, List.nil_append, List.cons_append]
  gi_wp2
  go_ret
  exact ⟨rfl, rfl⟩

theorem chunk_stops (n : Nat) (hn : 1 ≤ n) (B1 B2 b o m cp : Nat) (hm : m ≤ 1000000) (hcp : m ≤ cp) (w : World) (hB1 : B1 < w.heap.size) (hB2 : B2 < w.heap.size)
    (h1 : w.cell? ⟨B1, 0, none⟩ = some (.slice (some ⟨b, o, none⟩) m cp)) (h2 : w.cell? ⟨B2, 0, none⟩ = some (.int .i64 15)) :
    SeqStopsK Fence.wide n Try.prog 56 #[.pointer (some ⟨B1, 0, none⟩), .pointer (some ⟨B2, 0, none⟩)] (fun x : { c : Nat // 15 * c < m } => #[chunkV b o m x.1]) (Two B1 B2)
      (fun ys => ys.map (·.1) = List.range ((m + 14) / 15)) (fun _ => True) ((m + 14) / 15) w := fun l J Jx W hW hJ hJx hY h0 => by
  refine (chunk1_in n hn l B1 B2 b o m cp hm hcp (fun ys W => ∃ xs : List { c : Nat // 15 * c < m }, xs.map (·.1) = ys ∧ J xs W) (fun ys W => ∃ xs, Jx xs W)
    (fun ys W ⟨xs, h, hj⟩ => ⟨xs, h, hJ _ _ W.drew none hj ⟨rfl, rfl, rfl, Nat.le_refl _, fun _ _ _ => rfl⟩ (fun r e => by cases e)⟩) ?_ W ((hW.cell (p := ⟨B1, 0, none⟩) hB1).trans h1) ((hW.cell (p := ⟨B2, 0, none⟩) hB2).trans h2) ⟨[], rfl, h0⟩).mono ?_
  · rintro pre x W1 ⟨xs, hxs, hj⟩ hlen hx
    have hl : xs.length = pre.length := by rw [← hxs, List.length_map]
    obtain ⟨fn, tmps, assign, body, hy, hR⟩ := hY xs ⟨x, hx⟩ W1 hj (by omega)
    refine ⟨fn, tmps, assign, body, hy, hR.mono ?_⟩
    rintro e W' (⟨rfl, h3, h4⟩ | ⟨rfl, h3⟩)
    · exact .inl ⟨rfl, ⟨xs ++ [⟨x, hx⟩], by rw [List.map_append, hxs]; rfl, h3⟩, h4⟩
    · exact .inr ⟨rfl, _, h3⟩
  · rintro e W' ⟨he, ⟨ys, rfl, xs, hx, hj⟩ | ⟨_, _, xs, hj⟩⟩
    · exact ⟨he, .inl ⟨xs, hx, hj⟩⟩
    · exact ⟨he, .inr ⟨xs, trivial, hj⟩⟩
end Go.Proofs.Ytnkpmmijdkcdjaa
