/-
  Rows that are made and copied; package intern's with, Find and the document's Find.
-/
import Derived.Test.YtdecllllcoflbaaX1
import Derived.Deep.WholeRow
namespace Go.Proofs.Ytdecllllcoflbaa.Intern
open Go.RowKit

theorem info37 : (Try.prog.info? 37).map (fun i => (i.zero, i.size, i.bytes)) = some (some (.agg #[.int .u16 0, .int .i64 0]), 2, 16) := by kernel_rfl
/-- Sixteen free rows. -/
def frees : List Rw := List.replicate 16 .z
theorem make_rows (u : World) : (Instr.makeSlice 22 (.int .i64 16) (.int .i64 16)).run Try.prog u =
    .ok (.slice (some ⟨u.heap.size, 0, none⟩) 16 16) (u.alloc (.cells (rowsV frees).toArray 37)) := by
  obtain ⟨i0, hi, hz0, hz1, hz2⟩ := info_parts info37
  have hr := run_make (P := Try.prog) u 22 37 i0 (.agg #[.int .u16 0, .int .i64 0]) Try.underlying22 hi hz0 .i64 .i64 16 16 (by omega) (Int.le_refl _) (by rw [hz2]; omega) (by omega)
  have e : (madeCells (Value.agg #[.int .u16 0, .int .i64 0]).cells (16 * i0.size)) = (rowsV frees).toArray := by
    rw [hz1]
    kernel_rfl
  have e2 : Int.toNat 16 = 16 := rfl
  rw [e2, e] at hr
  exact hr

/-- 'copy(d, s)': all of a row of as many elements goes over. -/
theorem run_copy_all {P : Program} (w : World) (dT sT ty elem : TypeId) (g n dCap : Nat) (a : Addr) (sCap k : Nat) (cur : List Value) (t : TypeId) (cs : List Value)
    (hu : P.underlying dT = some (.slice elem)) (hs : (P.info? elem).map (·.size) = some k)
    (hg : w.heap[g]? = some (.cells cur.toArray t (0, 0))) (hn : cs.length = n * k) (hc : cur.length = n * k)
    (hsrc : ∀ j v, cs[j]? = some v → w.cell? (a.add j) = some v) (h1 : ∀ v ∈ cs, v.oneCell' = true) :
    (Builtin.copy_ #[dT, sT] ty #[.slice (some ⟨g, 0, none⟩) n dCap, .slice (some a) n sCap]).run P w = .ok (goInt n) (w.setRow g cs.toArray) := by
  have hl := run_loadCells_list (P := P) w a cs hsrc
  have hst := run_storeCells_at P g 0 t cs 0 cur.toArray w hg (by simp [hc, hn]) h1
  have e : (cur.toArray.toList.take (0 + 0) ++ cs ++ cur.toArray.toList.drop (0 + 0 + cs.length)).toArray = cs.toArray := by
    congr 1
    simp
    omega
  rw [e] at hst
  cases hq : P.info? elem with
  | none => simp [hq] at hs
  | some i =>
    have hi : i.size = k := by simpa [hq] using hs
    have hm : Nat.min n n = n := Nat.min_self n
    simp [Builtin.copy_, run_underlying hu, Builtin.lenOf, Builtin.firstCells, sizeOf, typeInfo, hq, hi, ← hn, hl, hst, hm]

theorem wpList_copy_all {P : Program} {w : World} {ops : Array Oper} {rest : List Oper} {o : Oper} {a : Act} {Q : Exit → Act → World → Prop} (hgd : o.guard = none) (d s : Operand) (dT sT : TypeId)
    (ho : o.op = .call { callee := .builtin .copy, args := #[d, s], argTypes := #[dT, sT] }) (elem : TypeId) (k : Nat) (hu : P.underlying dT = some (.slice elem)) (hsz : (P.info? elem).map (·.size) = some k)
    (g n dCap : Nat) (ad : Addr) (sCap : Nat) (hd : a.eval d = .slice (some ⟨g, 0, none⟩) n dCap) (hs : a.eval s = .slice (some ad) n sCap)
    (cur : List Value) (t : TypeId) (hg : w.heap[g]? = some (.cells cur.toArray t (0, 0))) (cs : List Value) (hn : cs.length = n * k) (hc : cur.length = n * k)
    (hsrc : ∀ j v, cs[j]? = some v → w.cell? (ad.add j) = some v) (h1 : ∀ v ∈ cs, v.oneCell' = true)
    (h : ∀ w', Hid (w' = w.setRow g cs.toArray) → wpList P ops Q rest (a.put o.dst (goInt n)) w') : wpList P ops Q (o :: rest) a w := by
  refine wpList_plain hgd fun K hK => ?_
  have hrun := run_copy_all (P := P) w dT sT o.type elem g n dCap ad sCap k cur t cs hu hsz hg hn hc hsrc h1
  unfold Oper.wp
  simp [execOp, ho, resolve, invoke, builtin, hd, hs, hrun, Result.andThen]
  exact hK _ _ (h _ (Lib.hid rfl))

theorem size37 : (Try.prog.info? 37).map (·.size) = some 2 := by kernel_rfl

set_option maxHeartbeats 800000 in
theorem with_any (l : List Rw) (A : Option Addr) (c : Nat) (i : Nat) (a : Nat) (x : Int) (w : World) (hn : l.length = 16) (hr : Rd w w.heap.size A (rowsV l)) (hi : i < 16) :
    Calls Try.prog 27 #[.slice A 16 c, .int .i64 (i : Int), .agg #[.int .u16 (a : Int), .int .i64 x]] w fun e w' => ∃ g, e = .returned (.slice (some ⟨g, 0, none⟩) 16 16) ∧ w.heap.size ≤ g ∧ Bk w' g 37 (rowsV (l.set i ⟨a, x⟩)) ∧ Below w.heap.size w w' := by
  obtain ⟨b, o, rfl, hb, hcc⟩ : ∃ b o, A = some ⟨b, o, none⟩ ∧ b < w.heap.size ∧ ∀ j u, (rowsV l)[j]? = some u → w.cell? ⟨b, o + j, none⟩ = some u := by
    rcases hr with h | h
    · have := length_rowsV l; rw [h, hn] at this; simp at this
    · exact h
  have hmk := make_rows
  have Hn := Lib.hid hn
  have Hc := Lib.hid hcc
  clear hr hn hcc
  go_enter Try.func27, Try.ntmps27
  go_wp2_with (refine wpList_copy_all rfl (.tmp 11) (.tmp 12) 22 22 rfl 37 2 Try.underlying22 size37 (w.heap.size + 1) 16 16 ⟨b, o, none⟩ c rfl rfl (rowsV frees) 37 ?c0 (rowsV l) ?c1 ?c2 ?c3 (rowsV_one l) ?_)
  case c0 =>
    have := heap_alloc_new (w.alloc (.cells #[.int .u16 (a : Int), .int .i64 x] 37)) (.cells (rowsV frees).toArray 37)
    simpa using this
  case c1 => rw [length_rowsV, Hn.out]
  case c2 => rfl
  case c3 =>
    intro j v hv
    rw [Addr.add_lit]
    exact (World.cell?_alloc_past _ _ _ (by simp; omega)).trans ((World.cell?_alloc_past _ _ _ hb).trans (Hc.out j v hv))
  intro w3 h3
  obtain ⟨W1, hW1⟩ : ∃ W1, W1 = w.alloc (.cells #[.int .u16 (a : Int), .int .i64 x] 37) := ⟨_, rfl⟩
  have hs1 : W1.heap.size = w.heap.size + 1 := by rw [hW1]; simp
  have hw3 : w3 = W1.alloc (.cells (rowsV l).toArray 37) := by
    have := h3.out
    rw [← hW1, ← hs1, World.setRow_alloc_new] at this
    exact this
  have hb1 : Below w.heap.size w W1 := by rw [hW1]; exact alloc_below _ _
  have hk1 : Bk W1 w.heap.size 37 [.int .u16 (a : Int), .int .i64 x] := by rw [hW1]; exact Bk.new w 37 _
  have hb3 : Below W1.heap.size W1 w3 := by rw [hw3]; exact alloc_below _ _
  have hk3 : Bk w3 (w.heap.size + 1) 37 (rowsV l) := by rw [hw3, ← hs1]; exact Bk.new W1 37 _
  have hkb := hk1.below hb3 hk1.lt
  have d0 := hkb.cell 0
  have d1 := hkb.cell 1
  have HB3 := Lib.hid (hb1.trans (hb3.mono hb1.size))
  have hsz := hk3.lt
  have e0 : ∃ u, w3.cell? ⟨w.heap.size + 1, i * 2, none⟩ = some u := ⟨_, (hk3.cell _).trans (List.getElem?_eq_getElem (by rw [length_rowsV, Hn.out]; omega))⟩
  have e1 : ∃ u, w3.cell? ⟨w.heap.size + 1, i * 2 + 1, none⟩ = some u := ⟨_, (hk3.cell _).trans (List.getElem?_eq_getElem (by rw [length_rowsV, Hn.out]; omega))⟩
  obtain ⟨u0, e0⟩ := e0
  obtain ⟨u1, e1⟩ := e1
  have f0 := hk3.frozen (i * 2)
  have f1 := hk3.frozen (i * 2 + 1)
  have hset := (hk3.set (i * 2) (.int .u16 (a : Int))).set (i * 2 + 1) (.int .i64 x)
  rw [← rowsV_set l i ⟨a, x⟩ (by rw [Hn.out]; exact hi)] at hset
  have HK := Lib.hid hset
  have HB4 := Lib.hid ((HB3.out.setCell (p := ⟨w.heap.size + 1, i * 2, none⟩) (by show w.heap.size ≤ w.heap.size + 1; omega) (.int .u16 (a : Int))).setCell (p := ⟨w.heap.size + 1, i * 2 + 1, none⟩) (by show w.heap.size ≤ w.heap.size + 1; omega) (.int .i64 x))
  clear hW1 hs1 hw3 hb1 hk1 hb3 hk3 hkb h3 hset hmk
  go_wp2
  go_ret
  exact ⟨w.heap.size + 1, rfl, by omega, HK.out, HB4.out⟩
theorem with_zero (l : List Rw) (A : Option Addr) (c : Nat) (i : Nat) (w : World) (hn : l.length = 16) (hr : Rd w w.heap.size A (rowsV l)) (hi : i < 16) :
    Calls Try.prog 27 #[.slice A 16 c, .int .i64 (i : Int), .agg #[.int .u16 0, .int .i64 0]] w fun e w' => ∃ g, e = .returned (.slice (some ⟨g, 0, none⟩) 16 16) ∧ w.heap.size ≤ g ∧ Bk w' g 37 (rowsV (l.set i .z)) ∧ Below w.heap.size w w' := with_any l A c i 0 0 w hn hr hi
end Go.Proofs.Ytdecllllcoflbaa.Intern
