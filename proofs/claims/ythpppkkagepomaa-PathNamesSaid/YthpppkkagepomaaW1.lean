/-
  Package field's and the document's own functions that make bytes (store, padded, Num, Get, Set, few): what each call returns, and what it leaves.
-/
import Derived.Test.YthpppkkagepomaaW0
namespace Go.Proofs.Ythpppkkagepomaa
open Go.RowKit

theorem info5 : (Try.prog.info? 5).map (fun i => (i.zero, i.size, i.bytes)) = some (some (.int .u8 0), 1, 1) := by kernel_rfl
theorem size5 : (Try.prog.info? 5).map (·.size) = some 1 := by kernel_rfl

theorem byte_wrap (n j : Nat) : IntKind.u8.wrap ((n : Int) / 2 ^ (8 * j)) = ((UInt8.ofNat (n / 256 ^ j % 256)).toNat : Int) := by
  have e : ((n : Int) / 2 ^ (8 * j)) = ((n / 256 ^ j : Nat) : Int) := by rw [← two_pow_eq]; simp
  rw [e, IntKind.wrap_u8]
  simp

/-- What stands in a block while a number is stored. -/
def Storing (w : World) (g : Nat) (l : List UInt8) (off n j : Nat) (wr : World) : Prop :=
  Bk wr g 5 (bytesV (put l off (digs n j))) ∧ w.grownBy wr (some g)

theorem storing_step {w wr : World} {g : Nat} {l : List UInt8} {off n j : Nat} (h : Storing w g l off n j wr) (hj : off + j < l.length) :
    Storing w g l off n (j + 1) (wr.setCell ⟨g, off + j, none⟩ (.int .u8 (IntKind.u8.wrap ((n : Int) / 2 ^ (8 * j))))) := by
  refine ⟨?_, only_set h.2 _ _⟩
  have h1 := h.1.set (off + j) (byteV (UInt8.ofNat (n / 256 ^ j % 256)))
  have e : (bytesV (put l off (digs n j))).set (off + j) (byteV (UInt8.ofNat (n / 256 ^ j % 256))) = bytesV (put l off (digs n (j + 1))) := by
    rw [bytesV_put, bytesV_put, put_snoc _ _ _ _ _ (by simp [length_bytesV, length_digs]) (by simpa [length_bytesV] using hj), digs_succ, bytesV_append]
    rfl
  rw [e] at h1
  rw [byte_wrap]
  exact h1
theorem storing_cell {w wr : World} {g : Nat} {l : List UInt8} {off n j : Nat} (h : Storing w g l off n j wr) (hj : off + j < l.length) :
    (∃ v, wr.cell? ⟨g, off + j, none⟩ = some v) ∧ wr.frozen? ⟨g, off + j, none⟩ = false := by
  refine ⟨?_, h.1.frozen _⟩
  rw [h.1.cell]
  have hl : off + j < (bytesV (put l off (digs n j))).length := by rw [length_bytesV, length_put _ _ _ (by rw [length_digs]; omega)]; exact hj
  exact ⟨_, List.getElem?_eq_getElem hl⟩

theorem make_bytes (n : Nat) (h : n ≤ 65536) (u : World) : (Instr.makeSlice 43 (.int .i64 (n : Int)) (.int .i64 (n : Int))).run Try.prog u =
    .ok (.slice (some ⟨u.heap.size, 0, none⟩) n n) (u.alloc (.cells (bytesV (List.replicate n 0)).toArray 5)) := by
  obtain ⟨i0, hi, hz0, hz1, hz2⟩ := info_parts info5
  have hr := run_make (P := Try.prog) u 43 5 i0 (.int .u8 0) Try.underlying43 hi hz0 .i64 .i64 (n : Int) (n : Int) (by omega) (Int.le_refl _) (by rw [hz2]; omega) (by omega)
  have e : (madeCells (Value.int .u8 0).cells (n * i0.size)) = (bytesV (List.replicate n 0)).toArray := by
    apply Array.ext'
    rw [hz1, Nat.mul_one]
    have := toList_madeCells_one (.int .u8 0) n
    simp [bytesV, byteV] at this ⊢
    exact this
  simp only [Int.toNat_natCast, e] at hr
  exact hr

/-- What padded makes. -/
def padl (l : List UInt8) (size : Nat) : List UInt8 := l ++ List.replicate (size - l.length) 0
theorem padl_put (l : List UInt8) (size : Nat) : put (List.replicate size 0) 0 l = padl l size := by
  simp [put, padl]
theorem padl_self (l : List UInt8) : padl l l.length = l := by simp [padl]
theorem length_padl (l : List UInt8) (size : Nat) (h : l.length ≤ size) : (padl l size).length = size := by simp [padl]; omega

/-- What padded leaves: a new block that holds the bytes. -/
def Padded (w : World) (l : List UInt8) (size : Nat) (w' : World) : Prop := Bk w' w.heap.size 5 (bytesV (padl l size)) ∧ Below w.heap.size w w'

/-- A new row of bytes is handed back, and nothing that was there is changed. -/
def Made (w : World) (l : List UInt8) (v : Value) (w' : World) : Prop := w'.ownsRow w.heap.size 5 1 v l.length (bytesV l) ∧ Below w.heap.size w w'

/-- append onto an own row of bytes. -/
theorem wpList_app5 (w : World) {ops : Array Oper} {rest : List Oper} {o : Oper} {a : Act} {Q : Exit → Act → World → Prop} (hgd : o.guard = none) (s x : Operand)
    (ho : o.op = .call { callee := .builtin .append, args := #[s, x], argTypes := #[43, 43] })
    (base : Nat) (v : Value) (n : Nat) (l : List UInt8) (hs : a.eval s = v) (hown : w.ownsRow base 5 1 v n (bytesV l))
    (B : Nat) (A : Option Addr) (m c : Nat) (k : List UInt8) (hx : a.eval x = .slice A m c) (hm : k.length = m) (hr : Rd w B A (bytesV k))
    (hbytes : n + m ≤ 140737488355328) (hbase : base ≤ w.heap.size)
    (h : ∀ v' w', w'.ownsRow base 5 1 v' (n + m) (bytesV (l ++ k)) → w.grownBy w' v.ownBlock → wpList Try.prog ops Q rest (a.put o.dst v') w') : wpList Try.prog ops Q (o :: rest) a w := by
  obtain ⟨i0, hi, hz0, hz1, hz2⟩ := info_parts info5
  rw [bytesV_append] at h
  exact wpList_app w hgd s x 43 ho base 5 i0 _ 1 Try.underlying43 hi hz0 hz1 hz2 rfl v n _ hs hown B A m c _ hx (by rw [length_bytesV, hm]) hr (bytesV_one _) (by simp only [maxLen]; omega) (by omega) hbase h

end Go.Proofs.Ythpppkkagepomaa
