/-
  Rows compared; what the statements' own helpers do: free rows, the first twenty, whether two lists are the same.
-/
import Derived.Test.YtdecllllcoflbaaX6
import Derived.Laws.StructEq
namespace Go.Proofs.Ytdecllllcoflbaa.Intern
open Go.RowKit

theorem under37 : Try.prog.underlying 37 = some (.struct (Try.prog.fieldsOf 37)) := by kernel_rfl
theorem guard37 : Try.prog.eqGuardType Try.prog.depth 37 = false := by kernel_rfl
theorem guard_at37 (x y : Operand) (xs ys : Array Value) (op : BinOp) (W : World) : (eqGuard op 37 x y (.agg xs) (.agg ys)).run Try.prog W = .ok () W := run_eqGuard_agg W op 37 x y xs ys guard37
theorem part_u16 (xs : Array Value) (k : Nat) (x : Int) (h : xs[k]? = some (.int .u16 x)) (W : World) : (part 24 xs k).run Try.prog W = .ok (.int .u16 x) W := by
  unfold part
  simp [h, go_sem]
theorem part_i64 (xs : Array Value) (k : Nat) (x : Int) (h : xs[k]? = some (.int .i64 x)) (W : World) : (part 3 xs k).run Try.prog W = .ok (.int .i64 x) W := by
  unfold part
  simp [h, go_sem]
theorem two_of {α : Type} {l : List α} (h : l.length = 2) : ∃ a b, l = [a, b] := by
  match l, h with
  | [a, b], _ => exact ⟨a, b, rfl⟩
/-- Like rows are like. -/
theorem row_nsame (a : Nat) (x : Int) (W : World) : (binOp .neq 37 (.agg #[.int .u16 (a : Int), .int .i64 x]) (.agg #[.int .u16 (a : Int), .int .i64 x])).run Try.prog W = .ok (.bool false) W := by
  have hl : (Try.prog.fieldsOf 37).toList.length = 2 := by kernel_rfl
  have hm : (Try.prog.fieldsOf 37).toList.map (fun f => (f.name == "_", f.type, f.offset)) = [(false, 24, 0), (false, 3, 1)] := by kernel_rfl
  obtain ⟨f0, f1, e⟩ := two_of hl
  rw [e] at hm
  simp only [List.map_cons, List.map_nil, List.cons.injEq, Prod.mk.injEq, and_true] at hm
  obtain ⟨⟨n0, t0, o0⟩, n1, t1, o1⟩ := hm
  have n0 : f0.name ≠ "_" := by simpa using n0
  have n1 : f1.name ≠ "_" := by simpa using n1
  have h : (Op.eqFields 9999 #[.int .u16 (a : Int), .int .i64 x] #[.int .u16 (a : Int), .int .i64 x] (Try.prog.fieldsOf 37).toList).run Try.prog W = .ok true W := by
    rw [e]
    have p0 := part_u16 #[.int .u16 (a : Int), .int .i64 x] 0 a rfl W
    have p1 := part_i64 #[.int .u16 (a : Int), .int .i64 x] 1 x rfl W
    have e0 := run_equalIn_int (P := Try.prog) W 9998 24 .u16 .u16 (a : Int) (a : Int) Try.underlying24
    have e1 := run_equalIn_int (P := Try.prog) W 9998 3 .i64 .i64 x x Try.underlying3
    simp only [Op.eqFields, n0, n1, t0, t1, o0, o1, ne_eq, not_false_eq_true, if_true]
    simp [p0, p1, e0, e1]
  rw [run_neq_struct, run_equalIn_agg W 9999 37 _ _ under37 (by kernel_rfl), h]
  rfl

theorem free_any (w : World) : Calls Try.prog 24 #[] w fun e w' => e = .returned (.slice (some ⟨w.heap.size, 0, none⟩) 16 16) ∧ w' = w.alloc (.cells (rowsV frees).toArray 37) := by
  have hmk := make_rows
  go_enter Try.func24, Try.ntmps24
  go_wp2
  go_ret
  exact ⟨rfl, rfl⟩

theorem few_any (A : Option Addr) (n c : Nat) (w : World) (hc : n ≤ c) (hm : n ≤ 9223372036854775807) : Calls Try.prog 10 #[.slice A n c] w fun e w' => e = .returned (.slice A (min n 20) c) ∧ w = w' := by
  go_enter Try.func10, Try.ntmps10
  go_wp2
  case inl =>
    have e2 : min n 20 = 20 := by omega
    rw [e2]
    go_ret
    exact ⟨rfl, rfl⟩
  case inr =>
    have e2 : min n 20 = n := by omega
    rw [e2]
    go_ret
    exact ⟨rfl, rfl⟩

set_option maxHeartbeats 800000 in
theorem same_true (l : List Rw) (A A2 : Option Addr) (n c c2 : Nat) (B B2 : Nat) (w : World) (hn : l.length = n) (hr : Rd w B A (rowsV l)) (hr2 : Rd w B2 A2 (rowsV l)) (hm : n ≤ 9223372036854775807) :
    Calls Try.prog 19 #[.slice A n c, .slice A2 n c2] w fun e w' => e = .returned (.bool true) ∧ ∃ q, w' = w.drewN q := by
  have Hn := Lib.hid hn
  have h0 : l = [] → n = 0 := fun h => by rw [← hn, h]; rfl
  clear hn
  have hnn : ((n : Int) != (n : Int)) = false := by simp
  rcases rd_rows hr with h | ⟨b1, o1, rfl, _, hcc1⟩
  · obtain rfl := h0 h
    clear h h0 hr hr2
    go_enter Try.func19, Try.ntmps19
    go_wp2
    go_loop [5] (fun i => i = .int .i64 0) (fun _ => 0)
    case atStart => exact rfl
    case round =>
      obtain rfl := hrel
      go_wp2
      go_ret
      exact ⟨rfl, 0, rfl⟩
  rcases rd_rows hr2 with h | ⟨b2, o2, rfl, _, hcc2⟩
  · obtain rfl := h0 h
    clear h h0 hr hr2 hcc1
    go_enter Try.func19, Try.ntmps19
    go_wp2
    go_loop [5] (fun i => i = .int .i64 0) (fun _ => 0)
    case atStart => exact rfl
    case round =>
      obtain rfl := hrel
      go_wp2
      go_ret
      exact ⟨rfl, 0, rfl⟩
  have Hc1 := Lib.hid hcc1
  have Hc2 := Lib.hid hcc2
  have hg := guard_at37
  have hs := row_nsame
  clear hcc1 hcc2 hr hr2 h0
  go_enter Try.func19, Try.ntmps19
  go_wp2
  go_loopw [5] (fun i wr => ∃ k : Nat, k ≤ n ∧ i = .int .i64 (k : Int) ∧ ∃ q, wr = w.drewN q) (fun i _ => n - (intOf i).toNat)
  case atStart => exact ⟨0, Nat.zero_le _, rfl, 0, rfl⟩
  case round =>
    obtain ⟨k, hk, rfl, q, rfl⟩ := hrel
    by_cases hlt : k < n
    · have h1 : k < l.length := by rw [Hn.out]; exact hlt
      obtain ⟨c0, c1⟩ := Hc1.out k _ (List.getElem?_eq_getElem h1)
      obtain ⟨d0, d1⟩ := Hc2.out k _ (List.getElem?_eq_getElem h1)
      generalize l[k] = r at c0 c1 d0 d1
      obtain ⟨a, x⟩ := r
      have hk0 : (0 : Int) ≤ (k : Int) := Int.natCast_nonneg _
      have hk1 : (k : Int) < (n : Int) := by omega
      go_wp2
      go_quiet (fail)
      go_wp2
      go_roundw
      case rel => exact ⟨k + 1, by omega, by go_num, q + nq, by first | rfl | rw [World.drewN_drewN]⟩
      case measure => simp [intOf]; omega
    · go_wp2
      go_ret
      exact ⟨rfl, q, rfl⟩
end Go.Proofs.Ytdecllllcoflbaa.Intern
