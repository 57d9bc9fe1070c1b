/-
  Structs of ints compared; the document's examples, as the statements show them at their head: true at every world.
-/
import Derived.Test.YtcedpmakomhigaaR6
import Derived.Laws.StructEq
namespace Go.Proofs.Ytcedpmakomhigaa
open Go.RowKit

def intsA (l : List Int) : Array Value := (l.map (Value.int .i64)).toArray
theorem part_ints (l : List Int) (k : Nat) (x : Int) (h : l[k]? = some x) (W : World) : (part 3 (intsA l) k).run Try.prog W = .ok (.int .i64 x) W := by
  unfold part intsA
  simp [h, go_sem]
/-- Two structs of like ints are like. -/
theorem eqFields_same (l : List Int) (d : Nat) (W : World) : ∀ (fs : List Field) (k : Nat), (fs.map fun f => (f.name == "_", f.type, f.offset)) = (List.range' k fs.length).map (fun i => (false, 3, i)) → k + fs.length ≤ l.length →
    (Op.eqFields (d + 1) (intsA l) (intsA l) fs).run Try.prog W = .ok true W := by
  intro fs
  induction fs with
  | nil => intro k _ _; simp [Op.eqFields]
  | cons f fs ih =>
    intro k h hl
    simp only [List.map_cons, List.length_cons, List.range'_succ, List.cons.injEq, Prod.mk.injEq] at h
    obtain ⟨⟨h1, h2, h3⟩, h4⟩ := h
    simp only [List.length_cons] at hl
    have hn : f.name ≠ "_" := by simpa using h1
    obtain ⟨x, hx⟩ : ∃ x, l[k]? = some x := ⟨_, List.getElem?_eq_getElem (by omega)⟩
    have hp := part_ints l k x hx W
    have he := run_equalIn_int (P := Try.prog) W d 3 .i64 .i64 x x Try.underlying3
    have hr := ih (k + 1) h4 (by omega)
    simp only [Op.eqFields, hn, h2, h3, ne_eq, not_false_eq_true, if_true]
    simp [hp, he, hr]

theorem under23 : Try.prog.underlying 23 = some (.struct (Try.prog.fieldsOf 23)) := by kernel_rfl
theorem under25 : Try.prog.underlying 25 = some (.struct (Try.prog.fieldsOf 25)) := by kernel_rfl
theorem geo_same (a b c d : Int) (W : World) : (binOp .eql 23 (.agg #[.int .i64 a, .int .i64 b, .int .i64 c, .int .i64 d]) (.agg #[.int .i64 a, .int .i64 b, .int .i64 c, .int .i64 d])).run Try.prog W = .ok (.bool true) W := by
  have h : (Op.eqFields 9999 #[.int .i64 a, .int .i64 b, .int .i64 c, .int .i64 d] #[.int .i64 a, .int .i64 b, .int .i64 c, .int .i64 d] (Try.prog.fieldsOf 23).toList).run Try.prog W = .ok true W := eqFields_same [a, b, c, d] 9998 W (Try.prog.fieldsOf 23).toList 0 (by kernel_rfl) (by show 0 + (Try.prog.fieldsOf 23).toList.length ≤ 4; decide +kernel)
  rw [run_eql_struct, run_equalIn_agg W 9999 23 _ _ under23 (by kernel_rfl), h]
  rfl
theorem geo_nsame (a b c d : Int) (W : World) : (binOp .neq 23 (.agg #[.int .i64 a, .int .i64 b, .int .i64 c, .int .i64 d]) (.agg #[.int .i64 a, .int .i64 b, .int .i64 c, .int .i64 d])).run Try.prog W = .ok (.bool false) W := by
  have h : (Op.eqFields 9999 #[.int .i64 a, .int .i64 b, .int .i64 c, .int .i64 d] #[.int .i64 a, .int .i64 b, .int .i64 c, .int .i64 d] (Try.prog.fieldsOf 23).toList).run Try.prog W = .ok true W := eqFields_same [a, b, c, d] 9998 W (Try.prog.fieldsOf 23).toList 0 (by kernel_rfl) (by show 0 + (Try.prog.fieldsOf 23).toList.length ≤ 4; decide +kernel)
  rw [run_neq_struct, run_equalIn_agg W 9999 23 _ _ under23 (by kernel_rfl), h]
  rfl
theorem layout_same (a b c d e f g : Int) (W : World) : (binOp .eql 25 (.agg #[.int .i64 a, .int .i64 b, .int .i64 c, .int .i64 d, .int .i64 e, .int .i64 f, .int .i64 g]) (.agg #[.int .i64 a, .int .i64 b, .int .i64 c, .int .i64 d, .int .i64 e, .int .i64 f, .int .i64 g])).run Try.prog W = .ok (.bool true) W := by
  have h : (Op.eqFields 9999 #[.int .i64 a, .int .i64 b, .int .i64 c, .int .i64 d, .int .i64 e, .int .i64 f, .int .i64 g] #[.int .i64 a, .int .i64 b, .int .i64 c, .int .i64 d, .int .i64 e, .int .i64 f, .int .i64 g] (Try.prog.fieldsOf 25).toList).run Try.prog W = .ok true W := eqFields_same [a, b, c, d, e, f, g] 9998 W (Try.prog.fieldsOf 25).toList 0 (by kernel_rfl) (by show 0 + (Try.prog.fieldsOf 25).toList.length ≤ 7; decide +kernel)
  rw [run_eql_struct, run_equalIn_agg W 9999 25 _ _ under25 (by kernel_rfl), h]
  rfl
theorem guard23 : Try.prog.eqGuardType Try.prog.depth 23 = false := by kernel_rfl
theorem guard25 : Try.prog.eqGuardType Try.prog.depth 25 = false := by kernel_rfl
theorem guard_at23 (x y : Operand) (xs ys : Array Value) (op : BinOp) (W : World) : (eqGuard op 23 x y (.agg xs) (.agg ys)).run Try.prog W = .ok () W := run_eqGuard_agg W op 23 x y xs ys guard23
theorem guard_at25 (x y : Operand) (xs ys : Array Value) (op : BinOp) (W : World) : (eqGuard op 25 x y (.agg xs) (.agg ys)).run Try.prog W = .ok () W := run_eqGuard_agg W op 25 x y xs ys guard25

theorem valid_shown : Valid 20 8 2 4 := by constructor <;> decide
theorem plan_shown : planV 20 8 2 4 = .agg #[.int .i64 1, .int .i64 21, .int .i64 22, .int .i64 23, .int .i64 24, .int .i64 28, .int .i64 36] := rfl

/-- A geometry as it lies, behind a call. -/
theorem kept_cells {w w1 : World} {j i g p : Int} (hb : Below (w.alloc (.cells #[.int .i64 j, .int .i64 i, .int .i64 g, .int .i64 p] 23)).heap.size (w.alloc (.cells #[.int .i64 j, .int .i64 i, .int .i64 g, .int .i64 p] 23)) w1) :
    w1.cell? ⟨w.heap.size, 0, none⟩ = some (.int .i64 j) ∧ w1.cell? ⟨w.heap.size, 1, none⟩ = some (.int .i64 i) ∧ w1.cell? ⟨w.heap.size, 2, none⟩ = some (.int .i64 g) ∧ w1.cell? ⟨w.heap.size, 3, none⟩ = some (.int .i64 p) ∧ Below w.heap.size w w1 ∧ w.heap.size < w1.heap.size := by
  have hk : Bk (w.alloc (.cells #[.int .i64 j, .int .i64 i, .int .i64 g, .int .i64 p] 23)) w.heap.size 23 [.int .i64 j, .int .i64 i, .int .i64 g, .int .i64 p] := Bk.new w 23 _
  have hk1 := hk.below hb (by simp)
  exact ⟨hk1.cell 0, hk1.cell 1, hk1.cell 2, hk1.cell 3, ((Below.refl _ w).alloc (Nat.le_refl _) _).trans (hb.mono (by simp)), by have := hb.size; simp at this; omega⟩

set_option maxHeartbeats 800000 in
set_option maxRecDepth 100000 in
theorem shown_any (w : World) : Calls Try.prog 13 #[] w fun e w' => e = .returned (.bool true) ∧ Below w.heap.size w w' := by
  have hg := guard_at25
  have hs := layout_same
  have HP : Hid (∀ w, Calls Try.prog 9 #[geoV 20 8 2 4] w fun e w' => e = .returned (.tuple #[.agg #[.int .i64 1, .int .i64 21, .int .i64 22, .int .i64 23, .int .i64 24, .int .i64 28, .int .i64 36], .int .i64 0]) ∧ Below w.heap.size w w') := fun w => plan_yes valid_shown w
  have HM : Hid (∀ w, Calls Try.prog 16 #[geoV 20 8 2 4] w fun e w' => e = .returned (.int .i64 7) ∧ Below w.heap.size w w') := fun w => meta_yes valid_shown w
  go_enter Try.func13, Try.ntmps13
  go_wp2_with (first
    | (go_at_call 9; refine (HP.out _).mono ?_; rintro e w1 ⟨rfl, hb1⟩; obtain ⟨hc0, hc1, hc2, hc3, hb1', hs1⟩ := kept_cells hb1; have HB1 := Lib.hid hb1'; clear hb1 hb1')
    | (go_at_call 16; refine (HM.out _).mono ?_; rintro e w2 ⟨rfl, hb2⟩; have HB2 := Lib.hid ((HB1.out.alloc HB1.out.size _).trans (hb2.mono (by have := HB1.out.size; simp; omega))); clear hb2))
  go_ret
  exact ⟨rfl, HB2.out⟩
end Go.Proofs.Ytcedpmakomhigaa
