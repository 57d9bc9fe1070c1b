/-
  Whether a whirl is right, its bits, a byte's whirl, the first bytes of a text.
-/
import Derived.Test.YtlopndnjkphdnaaSpinW1
import Derived.Laws.StructEq
namespace Go.Proofs.Ytlopndnjkphdnaa.Spin
open Go.RowKit

/-- Whether both parts are from 0 to 256. -/
def rightB (x y : Int) : Bool := x == res x && y == res y
theorem rightB_res (x y : Int) : rightB (res x) (res y) = true := by simp [rightB, res_res]
def bitsI (x y : Int) : Int := (res x + 16 * res y) % 256

theorem ofByte_any (c : UInt8) (w : World) : Calls Try.prog 61 #[.int .u8 (c.toNat : Int)] w fun e w' => e = .returned (.agg #[.int .i64 ((c.toNat : Int) + 1), .int .i64 ((c.toNat : Int) % 7)]) ∧ Below w.heap.size w w' := by
  have hc := c.toNat_lt
  have h0 : (0 : Int) ≤ (c.toNat : Int) := by omega
  have h1 : (c.toNat : Int) ≤ 255 := by omega
  have h2 : (0 : Int) ≤ (c.toNat : Int) % 7 := by omega
  have h3 : (c.toNat : Int) % 7 ≤ 6 := by omega
  go_enter Try.func61, Try.ntmps61
  go_wp2
  exact bodyPost_ret (v := .agg #[.int .i64 ((c.toNat : Int) + 1), .int .i64 ((c.toNat : Int) % 7)]) (by simp [results, Try.results61, go_sem]) rfl ⟨rfl, (Below.refl _ _).alloc (Nat.le_refl _) _⟩

/-- The first 20,000 bytes. -/
def few (s : ByteArray) : ByteArray := s.extract 0 (min s.size 20000)
theorem few_size (s : ByteArray) : (few s).size = min s.size 20000 := by unfold few; rw [ByteArray.size_extract]; omega
theorem keep1 {w w1 w2 : World} {a : Nat} {a0 a1 : Value} (hb : Below w1.heap.size w1 w2) (h : w1.cell? ⟨a, 0, none⟩ = some a0 ∧ w1.cell? ⟨a, 1, none⟩ = some a1 ∧ Below w.heap.size w w1) :
    w2.cell? ⟨a, 0, none⟩ = some a0 ∧ w2.cell? ⟨a, 1, none⟩ = some a1 ∧ Below w.heap.size w w2 :=
  ⟨keepC hb (lt_of h.1) h.1, keepC hb (lt_of h.2.1) h.2.1, h.2.2.trans (hb.mono h.2.2.size)⟩
theorem start1 (w : World) (a0 a1 : Value) (t : TypeId) : let W := (w.alloc (.cells #[a0, a1] t)).drew
    W.cell? ⟨w.heap.size, 0, none⟩ = some a0 ∧ W.cell? ⟨w.heap.size, 1, none⟩ = some a1 ∧ Below w.heap.size w W :=
  ⟨cell_new w #[a0, a1] t 0, cell_new w #[a0, a1] t 1, ((Below.refl _ _).alloc (Nat.le_refl _) _).drew⟩

theorem under23 : Try.prog.underlying 56 = some (.struct (Try.prog.fieldsOf 56)) := by kernel_rfl
theorem eqFields23 (x0 x1 y0 y1 : Int) (W : World) (d : Nat) (f g : Field) (hf : (f.name == "_") = false) (hg : (g.name == "_") = false) (tf : f.type = 3) (tg : g.type = 3) (o0 : f.offset = 0) (o1 : g.offset = 1) :
    (Op.eqFields (d + 1) #[.int .i64 x0, .int .i64 x1] #[.int .i64 y0, .int .i64 y1] [f, g]).run Try.prog W = .ok (x0 == y0 && x1 == y1) W := by
  have h1 : f.name ≠ "_" := by simpa using hf
  have h2 : g.name ≠ "_" := by simpa using hg
  have e0 := fun W => run_equalIn_int (P := Try.prog) W d 3 .i64 .i64 x0 y0 Try.underlying3
  have e1 := fun W => run_equalIn_int (P := Try.prog) W d 3 .i64 .i64 x1 y1 Try.underlying3
  have p : ∀ (a b : Int) (k : Nat) (v : Int), #[Value.int .i64 a, .int .i64 b][k]? = some (.int .i64 v) → (part 3 #[.int .i64 a, .int .i64 b] k).run Try.prog W = .ok (.int .i64 v) W := by
    intro a b k v h
    unfold part
    simp [h, go_sem]
  simp only [Op.eqFields, h1, h2, tf, tg, o0, o1, ne_eq, not_false_eq_true, if_true]
  simp [p x0 x1 0 x0 rfl, p x0 x1 1 x1 rfl, p y0 y1 0 y0 rfl, p y0 y1 1 y1 rfl, e0, e1]
  by_cases h : x0 = y0 <;> by_cases h' : x1 = y1 <;> simp [h, h']
theorem two_of {α : Type} {l : List α} (h : l.length = 2) : ∃ a b, l = [a, b] := by
  match l, h with
  | [a, b], _ => exact ⟨a, b, rfl⟩
theorem eqAll23 (x0 x1 y0 y1 : Int) (W : World) (d : Nat) :
    (Op.eqFields (d + 1) #[.int .i64 x0, .int .i64 x1] #[.int .i64 y0, .int .i64 y1] (Try.prog.fieldsOf 56).toList).run Try.prog W = .ok (x0 == y0 && x1 == y1) W := by
  have hl : (Try.prog.fieldsOf 56).toList.length = 2 := by kernel_rfl
  have hm : (Try.prog.fieldsOf 56).toList.map (fun f => (f.name == "_", f.type, f.offset)) = [(false, 3, 0), (false, 3, 1)] := by kernel_rfl
  obtain ⟨f, g, e⟩ := two_of hl
  rw [e] at hm ⊢
  simp only [List.map_cons, List.map_nil, List.cons.injEq, Prod.mk.injEq, and_true] at hm
  obtain ⟨⟨f1, f2, f3⟩, g1, g2, g3⟩ := hm
  exact eqFields23 x0 x1 y0 y1 W d f g f1 g1 f2 g2 f3 g3
theorem spin_eql (x0 x1 y0 y1 : Int) (W : World) : (binOp .eql 56 (.agg #[.int .i64 x0, .int .i64 x1]) (.agg #[.int .i64 y0, .int .i64 y1])).run Try.prog W = .ok (.bool (x0 == y0 && x1 == y1)) W := by
  rw [run_eql_struct, run_equalIn_agg W 9999 56 _ _ under23 (by kernel_rfl), eqAll23 x0 x1 y0 y1 W 9998]
  rfl
theorem spin_neq (x0 x1 y0 y1 : Int) (W : World) : (binOp .neq 56 (.agg #[.int .i64 x0, .int .i64 x1]) (.agg #[.int .i64 y0, .int .i64 y1])).run Try.prog W = .ok (.bool (!(x0 == y0 && x1 == y1))) W := by
  rw [run_neq_struct, run_equalIn_agg W 9999 56 _ _ under23 (by kernel_rfl), eqAll23 x0 x1 y0 y1 W 9998]
  rfl
theorem guard23 : Try.prog.eqGuardType Try.prog.depth 56 = false := by kernel_rfl
theorem guard_at (x y : Operand) (xs ys : Array Value) (op : BinOp) (W : World) : (eqGuard op 56 x y (.agg xs) (.agg ys)).run Try.prog W = .ok () W := run_eqGuard_agg W op 56 x y xs ys guard23

theorem bits_any (x y : Int) (w : World) : Calls Try.prog 44 #[.agg #[.int .i64 x, .int .i64 y]] w fun e w' => e = .returned (.int .u8 (bitsI x y)) ∧ Below w.heap.size w w' := by
  have hx := res_bd x
  have hy := res_bd y
  obtain ⟨hx0, hx1⟩ := hx
  obtain ⟨hy0, hy1⟩ := hy
  go_enter Try.func44, Try.ntmps44
  go_wp2_with ((go_at_call 49; refine (normal_any _ _ _).mono ?_; rintro e w1 ⟨rfl, hb⟩; obtain ⟨hc, hf⟩ := bcell hb))
  go_ret
  exact ⟨rfl, ((((Below.refl _ _).alloc (Nat.le_refl _) _).trans (hb.mono (by simp))).setCell (by simp) _).setCell (by simp) _⟩
theorem rbits_any (x y : Int) (w : World) : Calls Try.prog 30 #[.agg #[.int .i64 x, .int .i64 y]] w fun e w' => e = .returned (.int .u8 (bitsI x y)) ∧ Below w.heap.size w w' := by
  have hx := res_bd x
  have hy := res_bd y
  obtain ⟨hx0, hx1⟩ := hx
  obtain ⟨hy0, hy1⟩ := hy
  go_enter Try.func30, Try.ntmps30
  go_wp2_with ((go_at_call 46; refine (norm_any _ _ _).mono ?_; rintro e w1 ⟨rfl, hb⟩; obtain ⟨hc, hf⟩ := bcell hb))
  go_ret
  have h := (((Below.refl _ _).alloc (Nat.le_refl _) _).trans (hb.mono (by simp)))
  exact ⟨rfl, h.alloc h.size _⟩

end Go.Proofs.Ytlopndnjkphdnaa.Spin
