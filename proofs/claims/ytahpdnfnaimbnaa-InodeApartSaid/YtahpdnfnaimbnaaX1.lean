/-
  Two inodes compared, cell by cell.
-/
import Derived.Test.YtahpdnfnaimbnaaX0
import Derived.ChangeKeysEq
namespace Go.Proofs.Ytahpdnfnaimbnaa.Inode
open Go.RowKit

section
variable (W : World)
theorem fields_step {d : Nat} {xs ys : Array Value} {f : Field} {fs : List Field} {a b : Value} {r t : Bool} (hn : f.name ≠ "_") (ha : (part f.type xs f.offset).run Try.prog W = .ok a W) (hb : (part f.type ys f.offset).run Try.prog W = .ok b W)
    (he : (Op.equalIn d f.type a b).run Try.prog W = .ok r W) (hr : (Op.eqFields d xs ys fs).run Try.prog W = .ok t W) : (Op.eqFields d xs ys (f :: fs)).run Try.prog W = .ok (r && t) W := by
  simp only [Op.eqFields, hn, ne_eq, not_false_eq_true, if_true]
  cases r <;> simp [ha, hb, he, hr]
theorem items_step {d c i : Nat} {e : TypeId} {xs ys : Array Value} {is : List Nat} {a b : Value} {r t : Bool} (ha : (part e xs (i * c)).run Try.prog W = .ok a W) (hb : (part e ys (i * c)).run Try.prog W = .ok b W)
    (he : (Op.equalIn d e a b).run Try.prog W = .ok r W) (hr : (Op.eqItems d e c xs ys is).run Try.prog W = .ok t W) : (Op.eqItems d e c xs ys (i :: is)).run Try.prog W = .ok (r && t) W := by
  simp only [Op.eqItems]
  cases r <;> simp [ha, hb, he, hr]
theorem part_u8 (xs : Array Value) (k : Nat) (x : Int) (h : xs[k]? = some (.int .u8 x)) : (part 5 xs k).run Try.prog W = .ok (.int .u8 x) W := by
  unfold part
  simp [h, go_sem]
theorem part_i64 (xs : Array Value) (k : Nat) (x : Int) (h : xs[k]? = some (.int .i64 x)) : (part 3 xs k).run Try.prog W = .ok (.int .i64 x) W := by
  unfold part
  simp [h, go_sem]
theorem part_dir (xs : Array Value) (k : Nat) (ys : Array Value) (h : xs.extract k (k + 8) = ys) : (part 22 xs k).run Try.prog W = .ok (.agg ys) W := by
  unfold part
  simp [h, go_sem]
theorem under24 : Try.prog.underlying 24 = some (.struct (Try.prog.fieldsOf 24)) := by kernel_rfl
theorem guard24 : Try.prog.eqGuardType Try.prog.depth 24 = false := by kernel_rfl
theorem guard_at24 (x y : Operand) (xs ys : Array Value) (op : BinOp) : (eqGuard op 24 x y (.agg xs) (.agg ys)).run Try.prog W = .ok () W := run_eqGuard_agg W op 24 x y xs ys guard24
theorem seven_of {α : Type} {l : List α} (h : l.length = 7) : ∃ a b c d e f g, l = [a, b, c, d, e, f, g] := by
  match l, h with
  | [a, b, c, d, e, f, g], _ => exact ⟨a, b, c, d, e, f, g, rfl⟩
theorem items_nil (d e c : Nat) (xs ys : Array Value) : (Op.eqItems d e c xs ys []).run Try.prog W = .ok true W := by simp [Op.eqItems]
theorem fields_nil (d : Nat) (xs ys : Array Value) : (Op.eqFields d xs ys []).run Try.prog W = .ok true W := by simp [Op.eqFields]
theorem cells3 : Try.prog.cellsOf 3 = 1 := by kernel_rfl
theorem eq3 (d : Nat) (x y : Int) : (Op.equalIn (d + 1) 3 (.int .i64 x) (.int .i64 y)).run Try.prog W = .ok (x == y) W := run_equalIn_int W d 3 .i64 .i64 x y Try.underlying3
theorem eq5 (d : Nat) (x y : Int) : (Op.equalIn (d + 1) 5 (.int .u8 x) (.int .u8 y)).run Try.prog W = .ok (x == y) W := run_equalIn_int W d 5 .u8 .u8 x y Try.underlying5
theorem dir_eq (d : Nat) (a0 a1 a2 a3 a4 a5 a6 a7 b0 b1 b2 b3 b4 b5 b6 b7 : Int) :
    (Op.equalIn (d + 2) 22 (.agg #[.int .i64 a0, .int .i64 a1, .int .i64 a2, .int .i64 a3, .int .i64 a4, .int .i64 a5, .int .i64 a6, .int .i64 a7]) (.agg #[.int .i64 b0, .int .i64 b1, .int .i64 b2, .int .i64 b3, .int .i64 b4, .int .i64 b5, .int .i64 b6, .int .i64 b7])).run Try.prog W =
      .ok (a0 == b0 && (a1 == b1 && (a2 == b2 && (a3 == b3 && (a4 == b4 && (a5 == b5 && (a6 == b6 && (a7 == b7 && true)))))))) W := by
  obtain ⟨i, hi⟩ : ∃ i, Try.prog.info? 3 = some i := ⟨_, rfl⟩
  rw [run_equalIn_array W (d + 1) _ _ Try.underlying22 hi, cells3]
  have e : List.range 8 = [0, 1, 2, 3, 4, 5, 6, 7] := rfl
  rw [e]
  refine items_step W (part_i64 W _ _ a0 rfl) (part_i64 W _ _ b0 rfl) (eq3 W d _ _) ?_
  refine items_step W (part_i64 W _ _ a1 rfl) (part_i64 W _ _ b1 rfl) (eq3 W d _ _) ?_
  refine items_step W (part_i64 W _ _ a2 rfl) (part_i64 W _ _ b2 rfl) (eq3 W d _ _) ?_
  refine items_step W (part_i64 W _ _ a3 rfl) (part_i64 W _ _ b3 rfl) (eq3 W d _ _) ?_
  refine items_step W (part_i64 W _ _ a4 rfl) (part_i64 W _ _ b4 rfl) (eq3 W d _ _) ?_
  refine items_step W (part_i64 W _ _ a5 rfl) (part_i64 W _ _ b5 rfl) (eq3 W d _ _) ?_
  refine items_step W (part_i64 W _ _ a6 rfl) (part_i64 W _ _ b6 rfl) (eq3 W d _ _) ?_
  refine items_step W (part_i64 W _ _ a7 rfl) (part_i64 W _ _ b7 rfl) (eq3 W d _ _) ?_
  exact items_nil W _ _ _ _ _
theorem ino_fields (n m : Ino) (hn : Oki n) (hm : Oki m) : (Op.eqFields 9999 (cellsI n).toArray (cellsI m).toArray (Try.prog.fieldsOf 24).toList).run Try.prog W = .ok (decB (n = m)) W := by
  obtain ⟨k, r, l, s, p⟩ := n
  obtain ⟨k', r', l', s', p'⟩ := m
  obtain ⟨p0, p1, p2, p3, p4, p5, p6, p7, p8, p9, hp⟩ := ten_of hn.len
  obtain ⟨q0, q1, q2, q3, q4, q5, q6, q7, q8, q9, hq⟩ := ten_of hm.len
  simp only at hp hq
  subst hp hq
  have hl : (Try.prog.fieldsOf 24).toList.length = 7 := by kernel_rfl
  have hmm : (Try.prog.fieldsOf 24).toList.map (fun f => (f.name == "_", f.type, f.offset)) = [(false, 5, 0), (false, 5, 1), (false, 3, 2), (false, 3, 3), (false, 22, 4), (false, 3, 12), (false, 3, 13)] := by kernel_rfl
  obtain ⟨f0, f1, f2, f3, f4, f5, f6, e⟩ := seven_of hl
  rw [e] at hmm ⊢
  simp only [List.map_cons, List.map_nil, List.cons.injEq, Prod.mk.injEq, and_true] at hmm
  obtain ⟨⟨n0, t0, o0⟩, ⟨n1, t1, o1⟩, ⟨n2, t2, o2⟩, ⟨n3, t3, o3⟩, ⟨n4, t4, o4⟩, ⟨n5, t5, o5⟩, n6, t6, o6⟩ := hmm
  have n0 : f0.name ≠ "_" := by simpa using n0
  have n1 : f1.name ≠ "_" := by simpa using n1
  have n2 : f2.name ≠ "_" := by simpa using n2
  have n3 : f3.name ≠ "_" := by simpa using n3
  have n4 : f4.name ≠ "_" := by simpa using n4
  have n5 : f5.name ≠ "_" := by simpa using n5
  have n6 : f6.name ≠ "_" := by simpa using n6
  have fin : decB ((⟨k, r, l, s, [p0, p1, p2, p3, p4, p5, p6, p7, p8, p9]⟩ : Ino) = ⟨k', r', l', s', [q0, q1, q2, q3, q4, q5, q6, q7, q8, q9]⟩) =
      ((k : Int) == (k' : Int) && ((r : Int) == (r' : Int) && (l == l' && (s == s' && ((p0 == q0 && (p1 == q1 && (p2 == q2 && (p3 == q3 && (p4 == q4 && (p5 == q5 && (p6 == q6 && (p7 == q7 && true)))))))) && (p8 == q8 && (p9 == q9 && true))))))) := by
    rw [Bool.eq_iff_iff]
    unfold decB
    rw [@decide_eq_true_iff _ (Classical.propDecidable _)]
    simp only [Ino.mk.injEq, List.cons.injEq, Bool.and_eq_true, beq_iff_eq, and_true, Int.natCast_inj]
    constructor
    · rintro ⟨h1, h2, h3, h4, h5, h6, h7, h8, h9, h10, h11, h12, h13, h14⟩
      exact ⟨h1, h2, h3, h4, ⟨h5, h6, h7, h8, h9, h10, h11, h12⟩, h13, h14⟩
    · rintro ⟨h1, h2, h3, h4, ⟨h5, h6, h7, h8, h9, h10, h11, h12⟩, h13, h14⟩
      exact ⟨h1, h2, h3, h4, h5, h6, h7, h8, h9, h10, h11, h12, h13, h14⟩
  rw [fin]
  refine fields_step W n0 (by rw [t0, o0]; exact part_u8 W _ _ (k : Int) rfl) (by rw [t0, o0]; exact part_u8 W _ _ (k' : Int) rfl) (by rw [t0]; exact eq5 W _ _ _) ?_
  refine fields_step W n1 (by rw [t1, o1]; exact part_u8 W _ _ (r : Int) rfl) (by rw [t1, o1]; exact part_u8 W _ _ (r' : Int) rfl) (by rw [t1]; exact eq5 W _ _ _) ?_
  refine fields_step W n2 (by rw [t2, o2]; exact part_i64 W _ _ l rfl) (by rw [t2, o2]; exact part_i64 W _ _ l' rfl) (by rw [t2]; exact eq3 W _ _ _) ?_
  refine fields_step W n3 (by rw [t3, o3]; exact part_i64 W _ _ s rfl) (by rw [t3, o3]; exact part_i64 W _ _ s' rfl) (by rw [t3]; exact eq3 W _ _ _) ?_
  refine fields_step W n4 (by rw [t4, o4]; exact part_dir W _ _ #[.int .i64 p0, .int .i64 p1, .int .i64 p2, .int .i64 p3, .int .i64 p4, .int .i64 p5, .int .i64 p6, .int .i64 p7] rfl) (by rw [t4, o4]; exact part_dir W _ _ #[.int .i64 q0, .int .i64 q1, .int .i64 q2, .int .i64 q3, .int .i64 q4, .int .i64 q5, .int .i64 q6, .int .i64 q7] rfl) (by rw [t4]; exact dir_eq W _ _ _ _ _ _ _ _ _ _ _ _ _ _ _ _ _) ?_
  refine fields_step W n5 (by rw [t5, o5]; exact part_i64 W _ _ p8 rfl) (by rw [t5, o5]; exact part_i64 W _ _ q8 rfl) (by rw [t5]; exact eq3 W _ _ _) ?_
  refine fields_step W n6 (by rw [t6, o6]; exact part_i64 W _ _ p9 rfl) (by rw [t6, o6]; exact part_i64 W _ _ q9 rfl) (by rw [t6]; exact eq3 W _ _ _) ?_
  exact fields_nil W _ _ _
theorem ino_eql (n m : Ino) (hn : Oki n) (hm : Oki m) : (binOp .eql 24 (inoV n) (inoV m)).run Try.prog W = .ok (.bool (decB (n = m))) W := by
  unfold inoV
  rw [run_eql_struct, run_equalIn_agg W 9999 24 _ _ under24 (by kernel_rfl), ino_fields W n m hn hm]
  rfl
theorem ino_neq (n m : Ino) (hn : Oki n) (hm : Oki m) : (binOp .neq 24 (inoV n) (inoV m)).run Try.prog W = .ok (.bool (!(decB (n = m)))) W := by
  unfold inoV
  rw [run_neq_struct, run_equalIn_agg W 9999 24 _ _ under24 (by kernel_rfl), ino_fields W n m hn hm]
  rfl
end
end Go.Proofs.Ytahpdnfnaimbnaa.Inode
