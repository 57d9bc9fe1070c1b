/-
  New tables: the program's, and the document's; and what a nil table holds.
  No condition is set.
-/
import Derived.Test.YtnahccdjeilboaaWi
namespace Go.Proofs.Ytnahccdjeilboaa.Prc
open Go.RowKit Apart
attribute [local go_sem ↓] Go.wp_at_zero Go.wp_at_succ

set_option maxHeartbeats 400000 in
theorem holds_nil (w : World) (i : Int) : Calls Try.prog 17 #[.pointer none, .int .i64 i] w fun e w' => e = .returned (.int .i64 0) ∧ w = w' := by
  go_enter Try.func17, Try.ntmps17
  go_wp2
  go_ret
  exact ⟨rfl, rfl⟩

def newB (n : Int) : Bool := decide (1 ≤ n) && decide (n ≤ 8)
theorem new_not {n : Int} (h : newB n = false) : n < 1 ∨ (1 ≤ n ∧ 8 < n) := by
  simp only [newB, Bool.and_eq_false_iff, decide_eq_false_iff_not] at h
  omega
set_option maxHeartbeats 400000 in
theorem new_no (w : World) {n : Int} (h : newB n = false) : Calls Try.prog 9 #[.int .i64 n] w fun e w' => e = .returned (.tuple #[.pointer none, .int .i64 1]) ∧ w = w' := by
  rcases new_not h with h1 | ⟨h1, h2⟩
  · clear h
    go_enter Try.func9, Try.ntmps9
    go_wp2
    go_ret2
    exact ⟨rfl, rfl⟩
  · have h3 : ¬ n < 1 := by omega
    clear h
    go_enter Try.func9, Try.ntmps9
    go_wp2
    go_ret2
    exact ⟨rfl, rfl⟩
set_option maxHeartbeats 400000 in
theorem rnew_no (w : World) {n : Int} (h : newB n = false) : Calls Try.prog 10 #[.int .i64 n] w fun e w' => e = .returned (.tuple #[.pointer none, .int .i64 1]) ∧ w = w' := by
  rcases new_not h with h1 | ⟨h1, h2⟩
  · clear h
    go_enter Try.func10, Try.ntmps10
    go_wp2
    go_ret2
    exact ⟨rfl, rfl⟩
  · have h3 : ¬ n < 1 := by omega
    clear h
    go_enter Try.func10, Try.ntmps10
    go_wp2
    go_ret2
    exact ⟨rfl, rfl⟩

def lT (n : Nat) : List Value := (List.range 73).map (cT n (fun _ => 0) fun _ => none)
theorem zero72 : Try.t72.zero = some (.agg (lT 0).toArray) := by kernel_rfl
theorem zeroV72 (W : World) : (zeroValue 72).run Try.prog W = .ok (.agg (lT 0).toArray) W := by
  have e0 : Try.prog.info? 72 = some Try.t72 := by kernel_rfl
  simp [zeroValue, typeInfo, e0, zero72]
theorem lT_set (n : Nat) : (lT 0).toArray.setIfInBounds 0 (.int .i64 (n : Int)) = (lT n).toArray := by
  show (List.set (lT 0) 0 _).toArray = _
  unfold lT
  rw [List.range_succ_eq_map]
  simp [cT]
set_option maxRecDepth 100000 in
set_option maxHeartbeats 800000 in
theorem new_any (w : World) {n : Nat} (h1 : 1 ≤ n) (h2 : n ≤ 8) : Calls Try.prog 9 #[.int .i64 (n : Int)] w fun e w' => ∃ b, e = .returned (.tuple #[.pointer (some ⟨b, 0, none⟩), .int .i64 0]) ∧ Below w.heap.size w w' ∧ ∃ P, TabA b (empty n) P w' ∧ ∀ i, P i → w.heap.size ≤ i ∧ i < w'.heap.size := by
  have h3 : ¬ (n : Int) < 1 := by omega
  have h4 : ¬ (8 : Int) < (n : Int) := by omega
  have hz := zeroV72 w
  have hs := lT_set n
  have hne : (lT 0).toArray ≠ #[] := by
    intro e
    have := congrArg Array.size e
    simp [lT] at this
  have hbk : Bk (w.alloc (.cells (lT n).toArray 72)) w.heap.size 72 (lT n) := Bk.new w 72 (lT n)
  have hpost : ∃ P, TabA w.heap.size (empty n) P (w.alloc (.cells (lT n).toArray 72)) ∧ ∀ i, P i → w.heap.size ≤ i ∧ i < (w.alloc (.cells (lT n).toArray 72)).heap.size := by
    refine ⟨ftG w.heap.size (fun _ => none), ⟨fun _ => none, ⟨hbk, fun _ _ _ => rfl, fun _ _ _ h => (by cases h), fun _ _ _ _ _ h => (by cases h)⟩, fun _ => Iff.rfl⟩, fun i hi => ?_⟩
    rcases hi with rfl | ⟨_, _, h⟩
    · exact ⟨Nat.le_refl _, by simp⟩
    · cases h
  have HP := Lib.hid hpost
  clear hbk hpost
  generalize (lT 0).toArray = Z at *
  generalize (lT n).toArray = Y at *
  go_enter Try.func9, Try.ntmps9
  go_wp2
  go_ret2
  exact ⟨_, rfl, (Below.refl _ w).alloc (Nat.le_refl _) _, HP.out⟩

def z25 : List Value := (List.range 25).map (cR (empty 1))
theorem zero51 : Try.t51.zero = some (.agg z25.toArray) := by kernel_rfl
theorem z25_get {k : Nat} (h : k < 25) : z25[k]? = some (cR (empty 1) k) := by
  unfold z25
  rw [List.getElem?_map, List.getElem?_range h]
  rfl
theorem cR_mod (n m : Nat) : cR (empty n) m = cR (empty 1) (m % 25) := by
  unfold cR
  rw [Nat.mod_mod]
  by_cases h : m % 25 = 0
  · rw [if_pos h, if_pos h]
    rfl
  · rw [if_neg h, if_neg h]
    rfl
theorem made_cells (n : Nat) : (madeCells z25.toArray (n * 25)).toList = (List.range (n * 25)).map (cR (empty n)) := by
  apply List.ext_getElem?
  intro k
  rw [List.getElem?_map, Array.getElem?_toList]
  unfold madeCells
  rw [Array.getElem?_map]
  rcases Nat.lt_or_ge k (n * 25) with hk | hk
  · rw [Array.getElem?_range, if_pos hk, List.getElem?_range hk]
    simp only [Option.map_some]
    rw [show z25.toArray.size = 25 from rfl, cR_mod n k]
    have := z25_get (k := k % 25) (by omega)
    congr 1
    simp [this]
  · rw [Array.getElem?_range, if_neg (by omega), List.getElem?_eq_none (by simpa using hk)]
    rfl
def RNew (w : World) (n : Nat) (e : Ending) (w' : World) : Prop := ∃ b r, e = .returned (.tuple #[.pointer (some ⟨b, 0, none⟩), .int .i64 0]) ∧ Below w.heap.size w w' ∧ ∃ P, RefA b r (empty n) P w' ∧ ∀ i, P i → w.heap.size ≤ i ∧ i < w'.heap.size
set_option maxRecDepth 100000 in
set_option maxHeartbeats 800000 in
theorem rnew_any (w : World) {n : Nat} (h1 : 1 ≤ n) (h2 : n ≤ 8) : Calls Try.prog 10 #[.int .i64 (n : Int)] w (RNew w n) := by
  have h3 : ¬ (n : Int) < 1 := by omega
  have h4 : ¬ (8 : Int) < (n : Int) := by omega
  obtain ⟨L, hL⟩ : ∃ L, L = (List.range (n * 25)).map (cR (empty n)) := ⟨_, rfl⟩
  have hmk : ∀ W : World, (Instr.makeSlice 52 (.int .i64 (n : Int)) (.int .i64 (n : Int))).run Try.prog W = .ok (.slice (some ⟨W.heap.size, 0, none⟩) n n) (W.alloc (.cells L.toArray 51)) := fun W => by
    have e1 := run_makeSlice W 52 51 Try.t51 _ Try.underlying52 (by kernel_rfl) zero51 .i64 .i64 (n : Int) (n : Int) (by omega) (by omega) (by show (n : Int).toNat * 25 ≤ _; omega) (by show ((_ : Nat) : Int) * _ ≤ _; simp [Try.t51]; omega) (by omega)
    have e2 : L.toArray = madeCells z25.toArray (n * 25) := by rw [hL, ← made_cells n]
    rw [e2]
    exact e1
  have hbk : Bk ((w.alloc (.cells L.toArray 51)).alloc (.cells #[.slice (some ⟨w.heap.size, 0, none⟩) n n] 54)) w.heap.size 51 L := (Bk.new w 51 L).below ((Below.refl _ _).alloc (Nat.le_refl _) _) (by simp)
  have hbk2 : Bk ((w.alloc (.cells L.toArray 51)).alloc (.cells #[.slice (some ⟨w.heap.size, 0, none⟩) n n] 54)) (w.heap.size + 1) 54 [.slice (some ⟨w.heap.size, 0, none⟩) n n] := by
    have := Bk.new (w.alloc (.cells L.toArray 51)) 54 [.slice (some ⟨w.heap.size, 0, none⟩) n n]
    simpa using this
  have hpost : ∃ P, RefA (w.heap.size + 1) w.heap.size (empty n) P ((w.alloc (.cells L.toArray 51)).alloc (.cells #[.slice (some ⟨w.heap.size, 0, none⟩) n n] 54)) ∧ ∀ i, P i → w.heap.size ≤ i ∧ i < ((w.alloc (.cells L.toArray 51)).alloc (.cells #[.slice (some ⟨w.heap.size, 0, none⟩) n n] 54)).heap.size := by
    refine ⟨fun i => i = w.heap.size + 1 ∨ i = w.heap.size, ⟨⟨hbk2, ?_⟩, fun _ => Iff.rfl⟩, fun i hi => ?_⟩
    · show Bk _ _ _ _
      rw [show (List.range ((empty n).n * 25)).map (cR (empty n)) = L from hL.symm]
      exact hbk
    · rcases hi with rfl | rfl
      · exact ⟨by omega, by simp⟩
      · exact ⟨Nat.le_refl _, by simp; omega⟩
  have HP := Lib.hid hpost
  clear hbk hbk2 hpost hL
  go_enter Try.func10, Try.ntmps10
  go_wp2
  go_ret2
  exact ⟨_, _, rfl, ((Below.refl _ w).alloc (Nat.le_refl _) _).alloc (by simp) _, HP.out⟩
end Go.Proofs.Ytnahccdjeilboaa.Prc
