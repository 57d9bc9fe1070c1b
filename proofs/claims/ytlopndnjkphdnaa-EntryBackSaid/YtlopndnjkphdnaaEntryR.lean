/-
  Rows of structs, as lists of cells: entries and places; what append does to them.
-/
import Derived.Test.YtlopndnjkphdnaaEntryX5
import Derived.Laws.OwnMore
namespace Go.Proofs.Ytlopndnjkphdnaa.Entry
open Go.RowKit

section
variable {α : Type} (f : α → List Value)
def rowsG (l : List α) : List Value := l.flatMap f
theorem rowsG_append (l m : List α) : rowsG f (l ++ m) = rowsG f l ++ rowsG f m := by simp [rowsG]
theorem rowsG_cons (a : α) (l : List α) : rowsG f (a :: l) = f a ++ rowsG f l := by simp [rowsG]
theorem rowsG_one (a : α) : rowsG f [a] = f a := by simp [rowsG]
variable {f} {k : Nat} (hk : ∀ a, (f a).length = k)
include hk
theorem length_rowsG (l : List α) : (rowsG f l).length = l.length * k := by
  induction l with
  | nil => simp [rowsG]
  | cons a l ih => rw [rowsG_cons, List.length_append, ih, hk, List.length_cons, Nat.add_mul]; omega
theorem rowsG_get {l : List α} {i : Nat} {a : α} (h : l[i]? = some a) {j : Nat} (hj : j < k) : (rowsG f l)[i * k + j]? = (f a)[j]? := by
  induction l generalizing i with
  | nil => simp at h
  | cons b l ih =>
    rw [rowsG_cons]
    cases i with
    | zero =>
      simp at h
      subst h
      rw [List.getElem?_append_left (by rw [hk]; omega)]
      congr 1
      omega
    | succ i =>
      have e : (i + 1) * k + j = i * k + j + (f b).length := by rw [hk, Nat.add_mul]; omega
      rw [e, List.getElem?_append_right (by omega), Nat.add_sub_cancel]
      exact ih (by simpa using h)
theorem rowsG_take (l : List α) (m : Nat) : rowsG f (l.take m) = (rowsG f l).take (m * k) := by
  induction l generalizing m with
  | nil => simp [rowsG]
  | cons b l ih =>
    cases m with
    | zero => simp [rowsG]
    | succ m =>
      have e : (m + 1) * k = (f b).length + m * k := by rw [hk, Nat.add_mul]; omega
      rw [List.take_succ_cons, rowsG_cons, rowsG_cons, ih, e, List.take_length_add_append]
theorem rowsG_set {l : List α} {i : Nat} {a : α} (hi : i < l.length) : rowsG f (l.set i a) = splice (rowsG f l) (i * k) (f a) := by
  induction l generalizing i with
  | nil => simp at hi
  | cons b l ih =>
    cases i with
    | zero =>
      rw [List.set_cons_zero, rowsG_cons, rowsG_cons]
      unfold splice
      rw [Nat.zero_mul, List.take_zero, List.nil_append, Nat.zero_add, hk a, ← hk b, List.drop_left]
    | succ i =>
      have e : (i + 1) * k = (f b).length + i * k := by rw [hk, Nat.add_mul]; omega
      rw [List.set_cons_succ, rowsG_cons, rowsG_cons, ih (by simpa using hi)]
      unfold splice
      rw [e, List.take_length_add_append, show (f b).length + i * k + (f a).length = (f b).length + (i * k + (f a).length) by omega, List.drop_length_add_append]
      simp [List.append_assoc]
end

/-- An own row, read. -/
theorem own_rdk {w : World} {base : Nat} {e : TypeId} {k : Nat} {v : Value} {n : Nat} {xs : List Value} (_hk : 0 < k) (h : w.ownsRow base e k v n xs) :
    ∃ A c, v = .slice A n c ∧ n ≤ c ∧ c ≤ maxLen ∧ Rd w w.heap.size A xs := by
  rcases h.2 with ⟨rfl, rfl⟩ | ⟨g, cap, cur, rfl, hb, hg, h1, h2, h3, h4⟩
  · exact ⟨none, 0, rfl, Nat.le_refl _, Nat.zero_le _, .inl (List.eq_nil_of_length_eq_zero (by simpa using h.1))⟩
  · refine ⟨_, cap, rfl, h1, h2, .inr ⟨g, 0, rfl, World_lt hg, fun j u hu => ?_⟩⟩
    have hj : j < n * k := by have := (List.getElem?_eq_some_iff.1 hu).1; have := h.1; omega
    rw [Nat.zero_add, h.cellAt j hj, hu]

theorem run_rowsG {P : Program} (w : World) (base : Nat) (t ty e : TypeId) (i : TypeInfo) (z : Value) (size bytes : Nat) (ht : P.underlying t = some (.slice e)) (hi : P.info? e = some i) (hz : i.zero = some z)
    (hsize : i.size = size) (hby : i.bytes = bytes) (hzs : z.cells.size = size) (hsz : 0 < size) (v : Value) (n : Nat) (xs : List Value) (hown : w.ownsRow base e size v n xs)
    (B : Nat) (A : Option Addr) (m c : Nat) (news : List Value) (hm : news.length = m * size) (hr : Rd w B A news) (h1 : ∀ u ∈ news, u.oneCell' = true)
    (h63 : n + m ≤ 1000000) (hbb : bytes ≤ 1000) (hbase : base ≤ w.heap.size) :
    ∃ v' w', (Builtin.append_ #[t, t] ty #[v, .slice A m c]).run P w = .ok v' w' ∧ w'.ownsRow base e size v' (n + m) (xs ++ news) ∧ w.grownBy w' v.ownBlock := by
  cases A with
  | none =>
    have hn : news = [] := by
      rcases hr with h | ⟨_, _, h, _⟩
      · exact h
      · cases h
    subst hn
    obtain rfl : m = 0 := by
      have h0 : m * size = 0 := hm.symm
      rcases Nat.mul_eq_zero.1 h0 with h | h <;> omega
    refine ⟨v, w, ?_, by simpa using hown, World.grownBy.refl w _⟩
    rcases hown.2 with ⟨rfl, rfl⟩ | ⟨g, cap, cur, rfl, _, _, hnc, _⟩
    · simp [Builtin.append_, run_underlying ht, sizeOf, typeInfo, hi, Builtin.lenOf, Builtin.firstCells]
    · simp [Builtin.append_, run_underlying ht, sizeOf, typeInfo, hi, Builtin.lenOf, Builtin.firstCells, hnc, storeCells]
  | some ad =>
    have hbytes : (n + m) * bytes ≤ 140737488355328 := by
      have := Nat.mul_le_mul h63 hbb
      omega
    obtain ⟨v', w', hrun, h2, h3, _⟩ := run_append_own (P := P) w base t ty e i z size bytes ht hi hz hsize hby hzs hsz v n xs hown ad m c news hm (by
      rcases hr with h | ⟨b, o, h, _, hc⟩
      · subst h
        intro j u hu
        simp at hu
      · injection h with h
        subst h
        intro j u hu
        rw [Addr.add_lit]
        exact hc j u hu) h1 (by unfold maxLen; omega) hbytes hbase
    exact ⟨v', w', hrun, h2, h3⟩
theorem wpList_rowsG {P : Program} (w : World) {ops : Array Oper} {rest : List Oper} {o : Oper} {a : Act} {Q : Exit → Act → World → Prop} (hgd : o.guard = none) (s x : Operand) (t : TypeId)
    (ho : o.op = .call { callee := .builtin .append, args := #[s, x], argTypes := #[t, t] })
    (base : Nat) (e : TypeId) (i : TypeInfo) (z : Value) (size bytes : Nat) (ht : P.underlying t = some (.slice e)) (hi : P.info? e = some i) (hz : i.zero = some z)
    (hsize : i.size = size) (hby : i.bytes = bytes) (hzs : z.cells.size = size) (hsz : 0 < size) (v : Value) (n : Nat) (xs : List Value) (hs : a.eval s = v) (hown : w.ownsRow base e size v n xs)
    (B : Nat) (A : Option Addr) (m c : Nat) (news : List Value) (hx : a.eval x = .slice A m c) (hm : news.length = m * size) (hr : Rd w B A news) (h1 : ∀ u ∈ news, u.oneCell' = true)
    (h63 : n + m ≤ 1000000) (hbb : bytes ≤ 1000) (hbase : base ≤ w.heap.size)
    (h : ∀ v' w', w'.ownsRow base e size v' (n + m) (xs ++ news) → w.grownBy w' v.ownBlock → wpList P ops Q rest (a.put o.dst v') w') : wpList P ops Q (o :: rest) a w := by
  refine wpList_plain hgd fun K hK => ?_
  obtain ⟨v', w', hrun, h2, h3⟩ := run_rowsG (P := P) w base t o.type e i z size bytes ht hi hz hsize hby hzs hsz v n xs hown B A m c news hm hr h1 h63 hbb hbase
  unfold Oper.wp execOp
  simp only [ho, resolve, invoke, builtin, Sem.run_bind, Sem.run_pure, Result.andThen_ok, List.map_toArray, List.map_cons, List.map_nil, hs, hx, hrun]
  exact hK _ _ (h v' w' h2 h3)

/-! Entries and places. -/
def entC (x : Ent) : List Value := [.string ⟨x.n.toArray⟩, .int .i64 (x.i : Int)]
def slotC : Slot → List Value
  | some x => [.string ⟨x.n.toArray⟩, .int .i64 (x.i : Int), .bool true]
  | none => [.string ⟨#[]⟩, .int .i64 0, .bool false]
theorem entC_len (x : Ent) : (entC x).length = 2 := rfl
theorem slotC_len (s : Slot) : (slotC s).length = 3 := by cases s <;> rfl
theorem entC_one (l : List Ent) : ∀ u ∈ rowsG entC l, u.oneCell' = true := by
  intro u hu
  obtain ⟨x, _, hx⟩ := List.mem_flatMap.1 hu
  simp only [entC, List.mem_cons, List.not_mem_nil, or_false] at hx
  rcases hx with rfl | rfl <;> rfl
theorem slotC_one (l : List Slot) : ∀ u ∈ rowsG slotC l, u.oneCell' = true := by
  intro u hu
  obtain ⟨x, _, hx⟩ := List.mem_flatMap.1 hu
  cases x with
  | none =>
    simp only [slotC, List.mem_cons, List.not_mem_nil, or_false] at hx
    rcases hx with rfl | rfl | rfl <;> rfl
  | some x =>
    simp only [slotC, List.mem_cons, List.not_mem_nil, or_false] at hx
    rcases hx with rfl | rfl | rfl <;> rfl
theorem info23 : (Try.prog.info? 23).map (fun i => (i.zero, i.size, i.bytes)) = some (some (.agg #[.string ⟨#[]⟩, .int .i64 0]), 2, 24) := by kernel_rfl
theorem info69 : (Try.prog.info? 69).map (fun i => (i.zero, i.size, i.bytes)) = some (some (.agg #[.string ⟨#[]⟩, .int .i64 0, .bool false]), 3, 32) := by kernel_rfl
/-- append of one entry. -/
theorem wpList_ent (w : World) {ops : Array Oper} {rest : List Oper} {o : Oper} {a : Act} {Q : Exit → Act → World → Prop} (hgd : o.guard = none) (s x : Operand)
    (ho : o.op = .call { callee := .builtin .append, args := #[s, x], argTypes := #[34, 34] })
    (base : Nat) (v : Value) (l : List Ent) (hs : a.eval s = v) (hown : w.ownsRow base 23 2 v l.length (rowsG entC l))
    (B : Nat) (A : Option Addr) (c : Nat) (y : Ent) (hx : a.eval x = .slice A 1 c) (hr : Rd w B A (entC y)) (h63 : l.length ≤ 1000) (hbase : base ≤ w.heap.size)
    (h : ∀ v' w', w'.ownsRow base 23 2 v' (l ++ [y]).length (rowsG entC (l ++ [y])) → w.grownBy w' v.ownBlock → wpList Try.prog ops Q rest (a.put o.dst v') w') : wpList Try.prog ops Q (o :: rest) a w := by
  obtain ⟨i0, hi, hz0, hz1, hz2⟩ := info_parts info23
  refine wpList_rowsG w hgd s x 34 ho base 23 i0 _ 2 24 Try.underlying34 hi hz0 hz1 hz2 rfl (by omega) v l.length _ hs hown B A 1 c (entC y) hx (entC_len y) hr (by rw [← rowsG_one entC y]; exact entC_one [y]) (by omega) (by omega) hbase fun v' w' h1 h2 => h v' w' ?_ h2
  rw [List.length_append, rowsG_append, rowsG_one]
  exact h1
/-- append of one place. -/
theorem wpList_slot (w : World) {ops : Array Oper} {rest : List Oper} {o : Oper} {a : Act} {Q : Exit → Act → World → Prop} (hgd : o.guard = none) (s x : Operand)
    (ho : o.op = .call { callee := .builtin .append, args := #[s, x], argTypes := #[65, 65] })
    (base : Nat) (v : Value) (l : List Slot) (hs : a.eval s = v) (hown : w.ownsRow base 69 3 v l.length (rowsG slotC l))
    (B : Nat) (A : Option Addr) (c : Nat) (y : Slot) (hx : a.eval x = .slice A 1 c) (hr : Rd w B A (slotC y)) (h63 : l.length ≤ 1000) (hbase : base ≤ w.heap.size)
    (h : ∀ v' w', w'.ownsRow base 69 3 v' (l ++ [y]).length (rowsG slotC (l ++ [y])) → w.grownBy w' v.ownBlock → wpList Try.prog ops Q rest (a.put o.dst v') w') : wpList Try.prog ops Q (o :: rest) a w := by
  obtain ⟨i0, hi, hz0, hz1, hz2⟩ := info_parts info69
  refine wpList_rowsG w hgd s x 65 ho base 69 i0 _ 3 32 Try.underlying65 hi hz0 hz1 hz2 rfl (by omega) v l.length _ hs hown B A 1 c (slotC y) hx (slotC_len y) hr (by rw [← rowsG_one slotC y]; exact slotC_one [y]) (by omega) (by omega) hbase fun v' w' h1 h2 => h v' w' ?_ h2
  rw [List.length_append, rowsG_append, rowsG_one]
  exact h1
end Go.Proofs.Ytlopndnjkphdnaa.Entry
