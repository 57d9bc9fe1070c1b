/-
  Package field's and the document's own Take and Fill, and the document's Same: what each call returns, and what it leaves.
-/
import Derived.Test.YtnkpmmijdkcdjaaW2
namespace Go.Proofs.Ytnkpmmijdkcdjaa
open Go.RowKit

theorem info23 : (Try.prog.info? 37).map (fun i => (i.zero, i.size, i.bytes)) = some (some (.int .u64 0), 1, 8) := by kernel_rfl

theorem make_nums (n : Nat) (h : n ≤ 65536) (u : World) : (Instr.makeSlice 102 (.int .i64 (n : Int)) (.int .i64 (n : Int))).run Try.prog u =
    .ok (.slice (some ⟨u.heap.size, 0, none⟩) n n) (u.alloc (.cells (numsV (List.replicate n 0)).toArray 37)) := by
  obtain ⟨i0, hi, hz0, hz1, hz2⟩ := info_parts info23
  have hr := run_make (P := Try.prog) u 102 37 i0 (.int .u64 0) Try.underlying102 hi hz0 .i64 .i64 (n : Int) (n : Int) (by omega) (Int.le_refl _) (by rw [hz2]; omega) (by omega)
  have e : (madeCells (Value.int .u64 0).cells (n * i0.size)) = (numsV (List.replicate n 0)).toArray := by
    apply Array.ext'
    rw [hz1, Nat.mul_one]
    have := toList_madeCells_one (.int .u64 0) n
    simp [numsV, numV] at this ⊢
    exact this
  simp only [Int.toNat_natCast, e] at hr
  exact hr

/-- append onto an own row of numbers. -/
theorem wpList_app23 (w : World) {ops : Array Oper} {rest : List Oper} {o : Oper} {a : Act} {Q : Exit → Act → World → Prop} (hgd : o.guard = none) (s x : Operand)
    (ho : o.op = .call { callee := .builtin .append, args := #[s, x], argTypes := #[102, 102] })
    (base : Nat) (v : Value) (n : Nat) (l : List Nat) (hs : a.eval s = v) (hown : w.ownsRow base 37 1 v n (numsV l))
    (B : Nat) (A : Option Addr) (m c : Nat) (k : List Nat) (hx : a.eval x = .slice A m c) (hm : k.length = m) (hr : Rd w B A (numsV k))
    (hbytes : (n + m) * 8 ≤ 140737488355328) (hbase : base ≤ w.heap.size)
    (h : ∀ v' w', w'.ownsRow base 37 1 v' (n + m) (numsV (l ++ k)) → w.grownBy w' v.ownBlock → wpList Try.prog ops Q rest (a.put o.dst v') w') : wpList Try.prog ops Q (o :: rest) a w := by
  obtain ⟨i0, hi, hz0, hz1, hz2⟩ := info_parts info23
  rw [numsV_append] at h
  exact wpList_app w hgd s x 102 ho base 37 i0 _ 8 Try.underlying102 hi hz0 hz1 hz2 rfl v n _ hs hown B A m c _ hx (by rw [length_numsV, hm]) hr (numsV_one _) (by simp only [maxLen]; omega) hbytes hbase h

/-- A new row of numbers is handed back, and nothing that was there is changed. -/
def MadeN (w : World) (l : List Nat) (v : Value) (w' : World) : Prop := w'.ownsRow w.heap.size 37 1 v l.length (numsV l) ∧ Below w.heap.size w w'

/-- Of a list that is being filled. -/
def partly (T : List Nat) (j : Nat) : List Nat := T.take j ++ List.replicate (T.length - j) 0
theorem partly_all (T : List Nat) : partly T T.length = T := by simp [partly]
theorem partly_zero (T : List Nat) : partly T 0 = List.replicate T.length 0 := by simp [partly]
theorem length_partly (T : List Nat) (j : Nat) (h : j ≤ T.length) : (partly T j).length = T.length := by simp [partly]; omega
theorem partly_step (T : List Nat) (j : Nat) (x : Nat) (h : T[j]? = some x) : (partly T j).set j x = partly T (j + 1) := by
  obtain ⟨hj, rfl⟩ := List.getElem?_eq_some_iff.1 h
  unfold partly
  have hl : (T.take j).length = j := by simp; omega
  rw [List.set_append_right _ _ (by omega), hl, Nat.sub_self, show T.length - j = (T.length - (j + 1)) + 1 by omega, List.replicate_succ, List.set_cons_zero, List.take_succ_eq_append_getElem hj, List.append_assoc]
  rfl
theorem numsV_set (l : List Nat) (j x : Nat) : (numsV l).set j (numV x) = numsV (l.set j x) := by simp [numsV, List.map_set]

def Taking (w : World) (g : Nat) (T : List Nat) (j : Nat) (wr : World) : Prop := Bk wr g 37 (numsV (partly T j)) ∧ w.grownBy wr (some g)
theorem taking_step {w wr : World} {g : Nat} {T : List Nat} {j x : Nat} (h : Taking w g T j wr) (hx : T[j]? = some x) : Taking w g T (j + 1) (wr.setCell ⟨g, j, none⟩ (.int .u64 (x : Int))) := by
  refine ⟨?_, only_set h.2 _ _⟩
  have := h.1.set j (numV x)
  rw [numsV_set, partly_step T j x hx] at this
  exact this
theorem taking_cell {w wr : World} {g : Nat} {T : List Nat} {j : Nat} (h : Taking w g T j wr) (hj : j < T.length) : (∃ v, wr.cell? ⟨g, j, none⟩ = some v) ∧ wr.frozen? ⟨g, j, none⟩ = false := by
  refine ⟨?_, h.1.frozen _⟩
  rw [h.1.cell]
  have hl : j < (numsV (partly T j)).length := by rw [length_numsV, length_partly _ _ (by omega)]; exact hj
  exact ⟨_, List.getElem?_eq_getElem hl⟩

def lenIn : Value → Nat
  | .slice _ k _ => k
  | _ => 0
theorem rd_new (w : World) (u : Value) (e : TypeId) : Rd (w.alloc (.cells #[u] e)) (w.heap.size + 1) (some ⟨w.heap.size, 0, none⟩) [u] :=
  .inr ⟨w.heap.size, 0, rfl, Nat.lt_succ_self _, fun i v hv => by
    rw [Nat.zero_add, World.cell?_alloc_at _ _ _ _ rfl]
    simpa using hv⟩

theorem fill_arg (A : Option Addr) (n c : Nat) (size : Int) (w : World) (h : size < 0) :
    Calls Try.prog 58 #[.slice A n c, .int .i64 size] w fun e w' => e = .returned (.tuple #[.slice none 0 0, .int .i64 1]) ∧ w = w' := by
  go_enter Try.func58, Try.ntmps58
  go_wp2
  go_ret2
  exact ⟨rfl, rfl⟩
theorem fill_long (A : Option Addr) (n c size : Nat) (w : World) (h : size < n ∨ 4096 < size) :
    Calls Try.prog 58 #[.slice A n c, .int .i64 size] w fun e w' => e = .returned (.tuple #[.slice none 0 0, .int .i64 4]) ∧ w = w' := by
  by_cases h1 : size < n
  · clear h
    go_enter Try.func58, Try.ntmps58
    go_wp2
    go_ret2
    exact ⟨rfl, rfl⟩
  · have h2 : 4096 < size := by omega
    clear h
    go_enter Try.func58, Try.ntmps58
    go_wp2
    go_ret2
    exact ⟨rfl, rfl⟩
theorem fill_ok (l : List UInt8) (A : Option Addr) (n c size : Nat) (w : World) (hn : l.length = n) (hr : Rd w w.heap.size A (bytesV l)) (hs : n ≤ size) (hm : size ≤ 4096) :
    Calls Try.prog 58 #[.slice A n c, .int .i64 size] w fun e w' => ∃ v, e = .returned (.tuple #[v, .int .i64 0]) ∧ Made w (padl l size) v w' := by
  have H := Lib.hid hn
  clear hn
  go_enter Try.func58, Try.ntmps58
  go_wp2_with (go_at_call 61; refine (padded_any l _ _ _ _ _ H.out hr hs (by omega)).mono ?_; rintro e w1 ⟨rfl, hp⟩)
  go_ret2
  have hl : (padl l size).length = size := length_padl l size (by rw [H.out]; exact hs)
  refine ⟨_, rfl, ?_, hp.2⟩
  rw [hl]
  exact hp.1.own size (by rw [length_bytesV, hl]) (Nat.le_refl _) (by simp only [maxLen]; omega)

end Go.Proofs.Ytnkpmmijdkcdjaa
