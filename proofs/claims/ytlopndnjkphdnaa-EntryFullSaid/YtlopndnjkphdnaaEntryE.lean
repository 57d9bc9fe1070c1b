/-
  Two entries compared.
-/
import Derived.Test.YtlopndnjkphdnaaEntryX5
import Derived.ChangeKeysEq
namespace Go.Proofs.Ytlopndnjkphdnaa.Entry
open Go.RowKit

section
variable (W : World)
theorem fields_step {d : Nat} {xs ys : Array Value} {f : Field} {fs : List Field} {a b : Value} {r t : Bool} (hn : f.name ≠ "_") (ha : (part f.type xs f.offset).run Try.prog W = .ok a W) (hb : (part f.type ys f.offset).run Try.prog W = .ok b W)
    (he : (Op.equalIn d f.type a b).run Try.prog W = .ok r W) (hr : (Op.eqFields d xs ys fs).run Try.prog W = .ok t W) : (Op.eqFields d xs ys (f :: fs)).run Try.prog W = .ok (r && t) W := by
  simp only [Op.eqFields, hn, ne_eq, not_false_eq_true, if_true]
  cases r <;> simp [ha, hb, he, hr]
theorem part_str (xs : Array Value) (k : Nat) (x : ByteArray) (h : xs[k]? = some (.string x)) : (part 9 xs k).run Try.prog W = .ok (.string x) W := by
  unfold part
  simp [h, go_sem]
theorem part_i64 (xs : Array Value) (k : Nat) (x : Int) (h : xs[k]? = some (.int .i64 x)) : (part 3 xs k).run Try.prog W = .ok (.int .i64 x) W := by
  unfold part
  simp [h, go_sem]
theorem under23 : Try.prog.underlying 23 = some (.struct (Try.prog.fieldsOf 23)) := by kernel_rfl
theorem guard23 : Try.prog.eqGuardType Try.prog.depth 23 = false := by kernel_rfl
theorem guard_at23 (x y : Operand) (xs ys : Array Value) (op : BinOp) : (eqGuard op 23 x y (.agg xs) (.agg ys)).run Try.prog W = .ok () W := run_eqGuard_agg W op 23 x y xs ys guard23
theorem two_of {α : Type} {l : List α} (h : l.length = 2) : ∃ a b, l = [a, b] := by
  match l, h with
  | [a, b], _ => exact ⟨a, b, rfl⟩
theorem fields_nil (d : Nat) (xs ys : Array Value) : (Op.eqFields d xs ys []).run Try.prog W = .ok true W := by simp [Op.eqFields]
theorem eq3 (d : Nat) (x y : Int) : (Op.equalIn (d + 1) 3 (.int .i64 x) (.int .i64 y)).run Try.prog W = .ok (x == y) W := run_equalIn_int W d 3 .i64 .i64 x y Try.underlying3
theorem eq9 (d : Nat) (x y : ByteArray) : (Op.equalIn (d + 1) 9 (.string x) (.string y)).run Try.prog W = .ok (x.data.toList == y.data.toList) W := by
  rw [← str_eq]
  exact run_equalIn_string W d 9 x y Try.underlying9
theorem ent_fields (s t : ByteArray) (i j : Int) : (Op.eqFields 9999 #[.string s, .int .i64 i] #[.string t, .int .i64 j] (Try.prog.fieldsOf 23).toList).run Try.prog W = .ok (s.data.toList == t.data.toList && (i == j && true)) W := by
  have hl : (Try.prog.fieldsOf 23).toList.length = 2 := by kernel_rfl
  have hmm : (Try.prog.fieldsOf 23).toList.map (fun f => (f.name == "_", f.type, f.offset)) = [(false, 9, 0), (false, 3, 1)] := by kernel_rfl
  obtain ⟨f0, f1, e⟩ := two_of hl
  rw [e] at hmm ⊢
  simp only [List.map_cons, List.map_nil, List.cons.injEq, Prod.mk.injEq, and_true] at hmm
  obtain ⟨⟨n0, t0, o0⟩, n1, t1, o1⟩ := hmm
  have n0 : f0.name ≠ "_" := by simpa using n0
  have n1 : f1.name ≠ "_" := by simpa using n1
  refine fields_step W n0 (by rw [t0, o0]; exact part_str W _ _ s rfl) (by rw [t0, o0]; exact part_str W _ _ t rfl) (by rw [t0]; exact eq9 W _ _ _) ?_
  refine fields_step W n1 (by rw [t1, o1]; exact part_i64 W _ _ i rfl) (by rw [t1, o1]; exact part_i64 W _ _ j rfl) (by rw [t1]; exact eq3 W _ _ _) ?_
  exact fields_nil W _ _ _
theorem ent_eql (s t : ByteArray) (i j : Int) : (binOp .eql 23 (.agg #[.string s, .int .i64 i]) (.agg #[.string t, .int .i64 j])).run Try.prog W = .ok (.bool (s.data.toList == t.data.toList && i == j)) W := by
  rw [run_eql_struct, run_equalIn_agg W 9999 23 _ _ under23 (by kernel_rfl), ent_fields W, Bool.and_true]
  rfl
theorem ent_neq (s t : ByteArray) (i j : Int) : (binOp .neq 23 (.agg #[.string s, .int .i64 i]) (.agg #[.string t, .int .i64 j])).run Try.prog W = .ok (.bool (!(s.data.toList == t.data.toList && i == j))) W := by
  rw [run_neq_struct, run_equalIn_agg W 9999 23 _ _ under23 (by kernel_rfl), ent_fields W, Bool.and_true]
  rfl
end
end Go.Proofs.Ytlopndnjkphdnaa.Entry
