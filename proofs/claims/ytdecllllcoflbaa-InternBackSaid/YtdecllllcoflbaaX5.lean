/-
  Appending rows; the document's Retain and Release.
-/
import Derived.Test.YtdecllllcoflbaaX4
import Derived.Laws.OwnMore
namespace Go.Proofs.Ytdecllllcoflbaa.Intern
open Go.RowKit

theorem run_rows_none {P : Program} (w : World) (base : Nat) (t ty e : TypeId) (size : Nat) (i : TypeInfo) (ht : P.underlying t = some (.slice e)) (hi : P.info? e = some i)
    (v : Value) (n : Nat) (xs : List Value) (hown : w.ownsRow base e size v n xs) (c : Nat) : (Builtin.append_ #[t, t] ty #[v, .slice none 0 c]).run P w = .ok v w := by
  rcases hown.2 with ⟨rfl, rfl⟩ | ⟨g, cap, cur, rfl, _, _, hnc, _⟩
  · simp [Builtin.append_, run_underlying ht, sizeOf, typeInfo, hi, Builtin.lenOf, Builtin.firstCells]
  · simp [Builtin.append_, run_underlying ht, sizeOf, typeInfo, hi, Builtin.lenOf, Builtin.firstCells, hnc, storeCells]

theorem run_rows (w : World) (base : Nat) (ty : TypeId) (v : Value) (k : List Rw) (hown : w.ownsRow base 37 2 v k.length (rowsV k))
    (B : Nat) (A : Option Addr) (m c : Nat) (l : List Rw) (hm : l.length = m) (hr : Rd w B A (rowsV l)) (h63 : k.length + m ≤ 1000000) (hbase : base ≤ w.heap.size) :
    ∃ v' w', (Builtin.append_ #[22, 22] ty #[v, .slice A m c]).run Try.prog w = .ok v' w' ∧ w'.ownsRow base 37 2 v' (k ++ l).length (rowsV (k ++ l)) ∧ w.grownBy w' v.ownBlock := by
  obtain ⟨i0, hi, hz0, hz1, hz2⟩ := info_parts info37
  cases A with
  | none =>
    have hn : rowsV l = [] := by
      rcases hr with h | ⟨_, _, h, _⟩
      · exact h
      · cases h
    have h0 : l = [] := rowsV_inj (m := []) hn
    subst h0
    obtain rfl : m = 0 := by simpa using hm.symm
    exact ⟨v, w, run_rows_none w base 22 ty 37 2 i0 Try.underlying22 hi v _ _ hown c, by simpa using hown, World.grownBy.refl w _⟩
  | some ad =>
    obtain ⟨v', w', hrun, h2, h3, _⟩ := run_append_own (P := Try.prog) w base 22 ty 37 i0 (.agg #[.int .u16 0, .int .i64 0]) 2 16 Try.underlying22 hi hz0 hz1 hz2 rfl (by omega) v k.length (rowsV k) hown ad m c (rowsV l) (by rw [length_rowsV, hm]) (by
      rcases hr with h | ⟨b, o, h, _, hc⟩
      · rw [h]
        intro j u hu
        simp at hu
      · injection h with h
        subst h
        intro j u hu
        rw [Addr.add_lit]
        exact hc j u hu) (rowsV_one l) (by unfold maxLen; omega) (by omega) hbase
    refine ⟨v', w', hrun, ?_, h3⟩
    rw [List.length_append, hm, rowsV_append]
    exact h2

theorem wpList_rows (w : World) {ops : Array Oper} {rest : List Oper} {o : Oper} {a : Act} {Q : Exit → Act → World → Prop} (hgd : o.guard = none) (s x : Operand)
    (ho : o.op = .call { callee := .builtin .append, args := #[s, x], argTypes := #[22, 22] })
    (base : Nat) (v : Value) (k : List Rw) (hs : a.eval s = v) (hown : w.ownsRow base 37 2 v k.length (rowsV k))
    (B : Nat) (A : Option Addr) (m c : Nat) (l : List Rw) (hx : a.eval x = .slice A m c) (hm : l.length = m) (hr : Rd w B A (rowsV l)) (h63 : k.length + m ≤ 1000000) (hbase : base ≤ w.heap.size)
    (h : ∀ v' w', w'.ownsRow base 37 2 v' (k ++ l).length (rowsV (k ++ l)) → w.grownBy w' v.ownBlock → wpList Try.prog ops Q rest (a.put o.dst v') w') : wpList Try.prog ops Q (o :: rest) a w := by
  refine wpList_plain hgd fun K hK => ?_
  obtain ⟨v', w', hrun, h2, h3⟩ := run_rows w base o.type v k hown B A m c l hm hr h63 hbase
  unfold Oper.wp execOp
  simp only [ho, resolve, invoke, builtin, Sem.run_bind, Sem.run_pure, Result.andThen_ok, List.map_toArray, List.map_cons, List.map_nil, hs, hx, hrun]
  exact hK _ _ (h v' w' h2 h3)

/-- 'append([]api.Row{}, x...)'. -/
theorem wpList_fresh (w : World) {ops : Array Oper} {rest : List Oper} {o : Oper} {a : Act} {Q : Exit → Act → World → Prop} (hgd : o.guard = none) (s x : Operand)
    (ho : o.op = .call { callee := .builtin .append, args := #[s, x], argTypes := #[22, 22] })
    (w0 : World) (hw : w = w0.alloc (.cells #[] 37)) (hs : a.eval s = .slice (some ⟨w0.heap.size, 0, none⟩) 0 0)
    (A : Option Addr) (m c : Nat) (l : List Rw) (hx : a.eval x = .slice A m c) (hm : l.length = m) (hr : Rd w0 w0.heap.size A (rowsV l)) (h63 : m ≤ 1000000)
    (h : ∀ v' w', w'.ownsRow w0.heap.size 37 2 v' m (rowsV l) → Below w0.heap.size w0 w' → wpList Try.prog ops Q rest (a.put o.dst v') w') : wpList Try.prog ops Q (o :: rest) a w := by
  have hb := alloc_below w0 (.cells #[] 37)
  have hk : w.ownsRow w0.heap.size 37 2 (.slice (some ⟨w0.heap.size, 0, none⟩) 0 0) ([] : List Rw).length (rowsV []) := by
    subst hw
    exact World.ownsRow_lit w0 #[] 0 (Nat.le_refl _) (by decide) rfl
  subst hw
  refine wpList_rows _ hgd s x ho w0.heap.size _ [] hs hk _ A m c l hx hm (hr.below hb) (by simpa using h63) hb.size fun v' w' h1 h2 => h v' w' ?_ ?_
  · simpa [hm] using h1
  · exact hb.grown h2 hb.size (by
      intro k hk
      simp only [Value.ownBlock, Option.some.injEq] at hk
      omega)

/-- A row of sixteen, as it lies. -/
theorem own16 {w : World} {base : Nat} {v : Value} {l : List Rw} (h : w.ownsRow base 37 2 v 16 (rowsV l)) : ∃ g c, v = .slice (some ⟨g, 0, none⟩) 16 c ∧ base ≤ g := by
  rcases h.2 with ⟨_, h0⟩ | ⟨g, cap, _, hv, hb, _⟩
  · omega
  · exact ⟨g, cap, hv, hb⟩
theorem own_cells {w : World} {base g c : Nat} {l : List Rw} (h : w.ownsRow base 37 2 (.slice (some ⟨g, 0, none⟩) 16 c) 16 (rowsV l)) {i : Nat} {r : Rw} (hi : l[i]? = some r) :
    w.cell? ⟨g, i * 2, none⟩ = some (.int .u16 (r.lab : Int)) ∧ w.cell? ⟨g, i * 2 + 1, none⟩ = some (.int .i64 r.refs) ∧ w.frozen? ⟨g, i * 2, none⟩ = false ∧ w.frozen? ⟨g, i * 2 + 1, none⟩ = false ∧ g < w.heap.size := by
  obtain ⟨h1, h2⟩ := rowsV_get l i r hi
  have hl : l.length * 2 = 32 := by have := h.1; rw [length_rowsV] at this; omega
  have hlt : i < l.length := (List.getElem?_eq_some_iff.1 hi).1
  have hg : g < w.heap.size := (h.lt g rfl).2
  exact ⟨(h.cellAt _ (by omega)).trans h1, (h.cellAt _ (by omega)).trans h2, h.frozenAt _, h.frozenAt _, hg⟩
/-- A store to a row's refs. -/
theorem own_refs {w : World} {base g c : Nat} {l : List Rw} (h : w.ownsRow base 37 2 (.slice (some ⟨g, 0, none⟩) 16 c) 16 (rowsV l)) {i : Nat} {r : Rw} (hi : l[i]? = some r) (x : Int) :
    (w.setCell ⟨g, i * 2 + 1, none⟩ (.int .i64 x)).ownsRow base 37 2 (.slice (some ⟨g, 0, none⟩) 16 c) 16 (rowsV (l.set i ⟨r.lab, x⟩)) := by
  have h1 := (h.stored (i * 2 + 1) (.int .i64 x)).1
  have hlt : i < l.length := (List.getElem?_eq_some_iff.1 hi).1
  rw [rowsV_set l i _ hlt]
  have e : (rowsV l).set (i * 2) (.int .u16 (r.lab : Int)) = rowsV l := by
    obtain ⟨h2, h3⟩ := List.getElem?_eq_some_iff.1 (rowsV_get l i r hi).1
    rw [← h3]
    exact List.set_getElem_self h2
  rw [e]
  exact h1
theorem own_row {w : World} {base g c : Nat} {l : List Rw} (h : w.ownsRow base 37 2 (.slice (some ⟨g, 0, none⟩) 16 c) 16 (rowsV l)) {i : Nat} (hi : i < l.length) (a : Nat) (x : Int) :
    ((w.setCell ⟨g, i * 2, none⟩ (.int .u16 (a : Int))).setCell ⟨g, i * 2 + 1, none⟩ (.int .i64 x)).ownsRow base 37 2 (.slice (some ⟨g, 0, none⟩) 16 c) 16 (rowsV (l.set i ⟨a, x⟩)) := by
  rw [rowsV_set l i _ hi]
  exact ((h.stored (i * 2) (.int .u16 (a : Int))).1.stored (i * 2 + 1) (.int .i64 x)).1
end Go.Proofs.Ytdecllllcoflbaa.Intern
