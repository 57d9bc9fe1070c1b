/-
  Open files compared; boxes beside a table.
  No condition is set.
-/
import Derived.Test.YtnahccdjeilboaaF
import Derived.Laws.StructEq
namespace Go.Proofs.Ytnahccdjeilboaa.Prc
open Go.RowKit Apart

def intsA (l : List Int) : Array Value := (l.map (Value.int .i64)).toArray
theorem part_ints (l : List Int) (k : Nat) (x : Int) (h : l[k]? = some x) (W : World) : (part 3 (intsA l) k).run Try.prog W = .ok (.int .i64 x) W := by
  unfold part intsA
  simp [h, go_sem]
/-- Two structs of like ints are like. -/
theorem eqFields_same (l : List Int) (d : Nat) (W : World) : ∀ (fs : List Field) (k : Nat), (fs.map fun f => (f.name == "_", f.type, f.offset)) = (List.range' k fs.length).map (fun i => (false, 3, i)) → k + fs.length ≤ l.length →
    (Op.eqFields (d + 1) (intsA l) (intsA l) fs).run Try.prog W = .ok true W := by
  intro fs
  induction fs with
  | nil => intro k _ _; simp [Op.eqFields]
  | cons f fs ih =>
    intro k h hl
    simp only [List.map_cons, List.length_cons, List.range'_succ, List.cons.injEq, Prod.mk.injEq] at h
    obtain ⟨⟨h1, h2, h3⟩, h4⟩ := h
    simp only [List.length_cons] at hl
    have hn : f.name ≠ "_" := by simpa using h1
    obtain ⟨x, hx⟩ : ∃ x, l[k]? = some x := ⟨_, List.getElem?_eq_getElem (by omega)⟩
    have hp := part_ints l k x hx W
    have he := run_equalIn_int (P := Try.prog) W d 3 .i64 .i64 x x Try.underlying3
    have hr := ih (k + 1) h4 (by omega)
    simp only [Op.eqFields, hn, h2, h3, ne_eq, not_false_eq_true, if_true]
    simp [hp, he, hr]


theorem under40 : Try.prog.underlying 40 = some (.struct (Try.prog.fieldsOf 40)) := by kernel_rfl
theorem fd_same (a b : Int) (W : World) : (binOp .eql 40 (.agg #[.int .i64 a, .int .i64 b]) (.agg #[.int .i64 a, .int .i64 b])).run Try.prog W = .ok (.bool true) W := by
  have h : (Op.eqFields 9999 #[.int .i64 a, .int .i64 b] #[.int .i64 a, .int .i64 b] (Try.prog.fieldsOf 40).toList).run Try.prog W = .ok true W := eqFields_same [a, b] 9998 W (Try.prog.fieldsOf 40).toList 0 (by kernel_rfl) (by show 0 + (Try.prog.fieldsOf 40).toList.length ≤ 2; decide +kernel)
  rw [run_eql_struct, run_equalIn_agg W 9999 40 _ _ under40 (by kernel_rfl), h]
  rfl
theorem fd_nsame (a b : Int) (W : World) : (binOp .neq 40 (.agg #[.int .i64 a, .int .i64 b]) (.agg #[.int .i64 a, .int .i64 b])).run Try.prog W = .ok (.bool false) W := by
  have h : (Op.eqFields 9999 #[.int .i64 a, .int .i64 b] #[.int .i64 a, .int .i64 b] (Try.prog.fieldsOf 40).toList).run Try.prog W = .ok true W := eqFields_same [a, b] 9998 W (Try.prog.fieldsOf 40).toList 0 (by kernel_rfl) (by show 0 + (Try.prog.fieldsOf 40).toList.length ≤ 2; decide +kernel)
  rw [run_neq_struct, run_equalIn_agg W 9999 40 _ _ under40 (by kernel_rfl), h]
  rfl
theorem guard_at40 (x y : Operand) (xs ys : Array Value) (op : BinOp) (W : World) : (eqGuard op 40 x y (.agg xs) (.agg ys)).run Try.prog W = .ok () W := run_eqGuard_agg W op 40 x y xs ys (by kernel_rfl)

section
variable {W u w' : World} {b b2 r2 g : Nat} {t s : Tb} {C C' D : Asr} {e : TypeId} {xs : List Value}
theorem St.model2 (hD : Lcl D) (h : St W b t (star (RefA b2 r2 s) D) u) (hs : s.Ok) (a : Act) (ha : a.Good) :
    Calls Try.prog 13 #[.pointer (some ⟨b2, 0, none⟩), .agg a.cells.toArray] u fun e w' => e = .returned (.tuple #[.int .i64 (doesA s a).1, .int .i64 (doesA s a).2.1]) ∧ St W b t (star (RefA b2 r2 (doesA s a).2.2) D) w' := by
  obtain ⟨h1, h2, h3⟩ := h
  refine (Now.call (A' := star (TabA b t) (star (RefA b2 r2 (doesA s a).2.2) D)) h2 h3.size (fun P g1 g2 => call_right (tab_lcl b t) g1 g2 (fun P1 g3 g4 => call_left hD g3 g4 (fun P2 g5 g6 => model_any g5 g6 hs a ha)))).mono ?_
  rintro e w' ⟨he, g1, g2⟩
  exact ⟨he, h1, g1, h3.trans g2⟩
theorem St.ref2 (h : St W b t (star (RefA b2 r2 s) D) u) : RefG b2 r2 s u := by
  obtain ⟨P, P1, P2, h1, -⟩ := h.rest
  exact h1.1
/-- A new variable. -/
theorem St.box (hC : Lcl C) (h : St W b t C u) (e : TypeId) (xs : List Value) : St W b t (star C (Bx u.heap.size e xs)) (u.alloc (.cells xs.toArray e)) := by
  obtain ⟨h1, ⟨P, ⟨P1, P2, h2, h3, h4, h5⟩, h6⟩, h7⟩ := h
  have hb : Below u.heap.size u (u.alloc (.cells xs.toArray e)) := (Below.refl _ u).alloc (Nat.le_refl _) _
  have hl1 : ∀ i, P1 i → i < u.heap.size := fun i hi => (h6 i ((h4 i).2 (.inl hi))).2
  have hl2 : ∀ i, P2 i → i < u.heap.size := fun i hi => (h6 i ((h4 i).2 (.inr hi))).2
  refine ⟨h1, ⟨fun i => P i ∨ i = u.heap.size, ⟨P1, fun i => P2 i ∨ i = u.heap.size, (tab_lcl b t).out _ _ _ h2 (fun i hi => hb.block i (hl1 i hi)) hb.size, ⟨P2, fun i => i = u.heap.size, hC.out _ _ _ h3 (fun i hi => hb.block i (hl2 i hi)) hb.size, ⟨Bk.new u e xs, fun i => Iff.rfl⟩, fun i => Iff.rfl, fun i hi hj => ?_⟩, fun i => ?_, fun i hi hj => ?_⟩, fun i hi => ?_⟩, h7.trans (hb.mono h7.size)⟩
  · have hj : i = u.heap.size := hj
    have := hl2 i hi
    omega
  · show (P i ∨ i = u.heap.size) ↔ (P1 i ∨ (P2 i ∨ i = u.heap.size))
    rw [h4 i]
    exact or_assoc
  · rcases hj with hj | hj
    · exact h5 i hi hj
    · have := hl1 i hi
      omega
  · rcases hi with hi | rfl
    · exact ⟨(h6 i hi).1, by have := (h6 i hi).2; simp; omega⟩
    · exact ⟨h7.size, by simp⟩
/-- Less beside. -/
theorem St.weak (h : St W b t C u) (hw : ∀ P, C P u → ∃ P', C' P' u ∧ ∀ i, P' i → P i) : St W b t C' u := by
  obtain ⟨h1, ⟨P, ⟨P1, P2, h2, h3, h4, h5⟩, h6⟩, h7⟩ := h
  obtain ⟨P3, h8, h9⟩ := hw P2 h3
  exact ⟨h1, ⟨fun i => P1 i ∨ P3 i, ⟨P1, P3, h2, h8, fun i => Iff.rfl, fun i hi hj => h5 i hi (h9 i hj)⟩, fun i hi => h6 i ((h4 i).2 (hi.imp id (h9 i)))⟩, h7⟩
theorem St.drop (h : St W b t (star C D) u) : St W b t C u := h.weak fun P ⟨P1, P2, h1, h2, h3, h4⟩ => ⟨P1, h1, fun i hi => (h3 i).2 (.inl hi)⟩
theorem St.drop3 {R : Asr} (h : St W b t (star R (star C D)) u) : St W b t (star R C) u := h.weak fun P ⟨P1, P2, h1, ⟨P3, P4, h2, h3, h4, h5⟩, h6, h7⟩ => ⟨fun i => P1 i ∨ P3 i, ⟨P1, P3, h1, h2, fun i => Iff.rfl, fun i hi hj => h7 i hi ((h4 i).2 (.inl hj))⟩, fun i hi => (h6 i).2 (hi.imp id fun hj => (h4 i).2 (.inl hj))⟩
theorem St.assoc {R : Asr} (h : St W b t (star (star R C) D) u) : St W b t (star R (star C D)) u := h.weak fun P h1 => ⟨P, star_assoc h1, fun _ hi => hi⟩
theorem St.swap (h : St W b t (star C D) u) : St W b t (star D C) u := h.weak fun P h1 => ⟨P, star_comm h1, fun _ hi => hi⟩
theorem St.bk (h : St W b t (star C (Bx g e xs)) u) : Bk u g e xs := by
  obtain ⟨P, P1, P2, -, h1, -⟩ := h.rest
  exact h1.1
theorem St.bk1 (h : St W b t (star (star C (Bx g e xs)) D) u) : Bk u g e xs := by
  obtain ⟨P, P1, P2, ⟨P3, P4, -, h1, -⟩, -⟩ := h.rest
  exact h1.1
/-- A variable is set. -/
theorem St.put (hC : Lcl C) (h : St W b t (star C (Bx g e xs)) u) (i : Nat) (v : Value) : St W b t (star C (Bx g e (xs.set i v))) (u.setCell ⟨g, i, none⟩ v) := by
  obtain ⟨h1, h2, h3⟩ := h
  have := Now.next h2 h3.size (fun P g1 g2 => Nx.right (tab_lcl b t) g1 g2 (fun P1 g3 g4 => Nx.right hC g3 g4 (fun P2 g5 g6 => bx_set g5 g6 i v)))
  exact ⟨h1, this.1, h3.trans this.2⟩
end
end Go.Proofs.Ytnahccdjeilboaa.Prc
