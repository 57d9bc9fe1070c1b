/-
  'append(v, u...)' for rows of ints, at the operation.
-/
import Derived.Test.YtnmfpgeojggjbaaS
import Derived.Laws.AppendOwnNone
namespace Go.Proofs.Ytnmfpgeojggjbaa
open Go.RowKit

/-- A slice of ints can be read: nil, or a part of a row. -/
def Reads (w : World) (u : Value) (m : List Int) : Prop :=
  (u = .slice none 0 0 ∧ m = []) ∨ ∃ g off c, u = .slice (some ⟨g, off, none⟩) m.length c ∧ ∀ j, (hj : j < m.length) → w.cell? ⟨g, off + j, none⟩ = some (.int .i64 m[j])
section
variable {w w' : World} {base : Nat} {v u : Value} {l m : List Int}

theorem Ints.reads (h : Ints w base v l) : Reads w v l := by
  rcases h.shape with ⟨rfl, rfl⟩ | ⟨g, c, cur, rfl, _, _, _, _, _, _⟩
  · exact .inl ⟨rfl, rfl⟩
  · refine .inr ⟨g, 0, c, rfl, fun j hj => ?_⟩
    obtain ⟨g', c', e, hc, _⟩ := h.get hj
    cases e
    rw [Nat.zero_add]
    exact hc
/-- Parts of it. -/
theorem Ints.part {g c n : Nat} (h : Ints w base (.slice (some ⟨g, 0, none⟩) n c) l) (hn : n = l.length) (a b : Nat) (hab : a ≤ b) (hb : b ≤ n) (c' k : Nat) (hk : k = b - a) : Reads w (.slice (some ⟨g, a, none⟩) k c') ((l.take b).drop a) := by
  subst hn hk
  refine .inr ⟨g, a, c', by simp; omega, fun j hj => ?_⟩
  have hj' : a + j < l.length := by simp at hj; omega
  obtain ⟨g', c'', e, hc, _⟩ := h.get hj'
  cases e
  rw [hc]
  simp
theorem wp_app {o : Oper} {a : Act} {K : Act → World → Prop} {Q : Exit → Act → World → Prop} (s x : Operand) (ho : o.op = .call { callee := .builtin .append, args := #[s, x], argTypes := #[47, 47] })
    (base : Nat) (v : Value) (l : List Int) (hs : a.eval s = v) (h : Ints w base v l) (u : Value) (m : List Int) (hx : a.eval x = u) (hu : Reads w u m) (hl : l.length + m.length ≤ 1000000) (hbase : base ≤ w.heap.size)
    (hK : ∀ v' w', Ints w' base v' (l ++ m) → w.grownBy w' v.ownBlock → K (a.put o.dst v') w') : o.wp Try.prog a w K Q := by
  obtain ⟨i0, hi, hz0, hz1, hz2⟩ := info_parts (P := Try.prog) (e := 3) (z := .int .i64 0) (size := 1) (bytes := 8) (by kernel_rfl)
  rcases hu with ⟨rfl, rfl⟩ | ⟨g, off, c, rfl, hc⟩
  · have hrun := run_append_owned_none (P := Try.prog) (w := w) base 47 o.type 3 i0 1 Try.underlying47 hi v l.length (intsV l) h
    unfold Oper.wp
    simp [execOp, ho, resolve, invoke, builtin, hs, hx, hrun, Result.andThen]
    refine hK v w ?_ (World.grownBy.refl _ _)
    rw [List.append_nil]
    exact h
  · refine wp_append_own w s x 47 ho base 3 i0 (.int .i64 0) 1 8 Try.underlying47 hi hz0 hz1 hz2 rfl (by decide) v l.length (intsV l) hs h ⟨g, off, none⟩ m.length c (intsV m) hx (by simp [intsV]) (fun j u hj => ?_) (fun u hu => ?_) (by unfold maxLen; omega) (by omega) hbase fun v' w' h1 h2 _ => hK v' w' ?_ h2
    · simp only [intsV, List.getElem?_map] at hj
      obtain ⟨y, hy, rfl⟩ := Option.map_eq_some_iff.1 hj
      obtain ⟨hjl, rfl⟩ := List.getElem?_eq_some_iff.1 hy
      have h1 := hc j hjl
      have h2 : (⟨g, off, none⟩ : Addr).add j = ⟨g, off + j, none⟩ := by
        unfold Addr.add
        split
        · rename_i h0; rw [h0]; rfl
        · rfl
      rw [h2]
      exact h1
    · obtain ⟨y, _, rfl⟩ := List.mem_map.1 hu
      rfl
    · have e1 : (l ++ m).length = l.length + m.length := by simp
      have e2 : intsV (l ++ m) = intsV l ++ intsV m := by simp [intsV]
      unfold Ints
      rw [e1, e2]
      exact h1
end
end Go.Proofs.Ytnmfpgeojggjbaa
