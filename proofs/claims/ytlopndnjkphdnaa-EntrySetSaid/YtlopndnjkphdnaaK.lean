/-
  Maps whose keys are strings, as they are seen from outside: what stands at a key, whether it is there, how many there are.
-/
import Derived.Test.YtlopndnjkphdnaaRows
import Derived.Test.YtlopndnjkphdnaaO
import Derived.Maps.RangeWalk
import Derived.Maps.OwnOps
import Derived.OpenShut
import Derived.StringKeys
namespace Go.Proofs.Ytlopndnjkphdnaa
open Go.RowKit Go.Maps Go.ChangeShapes Go.WideShapes

/-- A key. -/
def keyL (s : ByteArray) : Lit := .string s.data.toList
theorem keyL_is (s : ByteArray) : WideAt.IsKeyLit (keyL s) := trivial
theorem keyL_ne {s t : ByteArray} (h : s ≠ t) : keyL s ≠ keyL t := fun e => h (by
  injection e with e
  apply ByteArray.ext
  exact Array.toList_inj.1 e)
theorem key9 : Keyed Try.prog 9 := string_keyed Try.underlying9
/-- A string that may be. -/
def Sok (s : ByteArray) : Prop := s.size ≤ maxLen
def I64 (s : Int) : Prop := -9223372036854775808 ≤ s ∧ s ≤ 9223372036854775807
theorem wf_of {s : Int} (h : I64 s) : (Lit.int .i64 s).wf = true := WalkArith.wf_i64 h
theorem of_wf {s : Int} (h : (Lit.int .i64 s).wf = true) : I64 s := by
  have := bounds_i64 h
  unfold I64; omega
theorem key9_of {s : ByteArray} (h : Sok s) : keyOf Try.prog 9 (.string s) = some (keyL s) := Go.WideMaps.keyOf_string_mk Try.underlying9 h

/-- Elements of a kind: how they lie, how they read. -/
structure Elem {β : Type} (e : TypeId) (R : Value → Option (DataW Unit × List MemPlace)) (enc : β → Value) (dat : β → DataW Unit) (ok : β → Prop) (z : β) : Prop where
  make : ∀ x, ok x → R (enc x) = some (dat x, [])
  inv : ∀ v y, R v = some y → ∃ x, v = enc x ∧ y = (dat x, []) ∧ ok x
  inj : ∀ x y, dat x = dat y → x = y
  zero : ∀ w, (zeroValue e).run Try.prog w = .ok (enc z) w
  okz : ok z

section
variable {β : Type} {e t : TypeId} {R : Value → Option (DataW Unit × List MemPlace)} {enc : β → Value} {dat : β → DataW Unit} {ok : β → Prop} {z : β}

/-- A map in a block: at a key s stands at_ s; it has m keys. -/
def MapIs (R : Value → Option (DataW Unit × List MemPlace)) (dat : β → DataW Unit) (z : β) (w : World) (b : Nat) (at_ : ByteArray → β) (there : ByteArray → Bool) (m : Nat) : Prop :=
  ∃ D : DataW Unit, w.ownsMap Try.prog 9 R b m D ∧ (∀ s, D.atKey (keyL s) (dat z) = dat (at_ s)) ∧ (∀ s, has D (keyL s) = there s) ∧ size D = m

theorem tight {w : World} {b n : Nat} {D : DataW Unit} (h : w.ownsMap Try.prog 9 R b n D) : w.ownsMap Try.prog 9 R b (size D) D := by
  obtain ⟨es, clock, hb, F, hs, rfl⟩ := h
  exact ⟨es, clock, hb, F, by simp [size, length_sorted], rfl⟩

variable {w : World} {b m : Nat} {at_ : ByteArray → β} {there : ByteArray → Bool}

theorem MapIs.lt (h : MapIs R dat z w b at_ there m) : b < w.heap.size := by
  obtain ⟨D, h1, _⟩ := h
  exact h1.lt
theorem MapIs.keep {w' : World} (h : MapIs R dat z w b at_ there m) (hb : w'.heap[b]? = w.heap[b]?) : MapIs R dat z w' b at_ there m := by
  obtain ⟨D, ⟨es, clock, h1, h2⟩, h3⟩ := h
  exact ⟨D, ⟨es, clock, hb.trans h1, h2⟩, h3⟩
theorem MapIs.isMap (h : MapIs R dat z w b at_ there m) : ∃ es clock, w.heap[b]? = some (.map es clock) := by
  obtain ⟨D, ⟨es, clock, h1, _⟩, _⟩ := h
  exact ⟨es, clock, h1⟩
theorem MapIs.made (w : World) (R : Value → Option (DataW Unit × List MemPlace)) (dat : β → DataW Unit) (z : β) : MapIs R dat z (w.alloc (.map #[] 0)) w.heap.size (fun _ => z) (fun _ => false) 0 :=
  ⟨.map [], World.ownsMap_made w Try.prog 9 R, fun _ => rfl, fun _ => rfl, rfl⟩

theorem MapIs.look (E : Elem e R enc dat ok z) (ht : Try.prog.underlying t = some (.map 9 e)) (h : MapIs R dat z w b at_ there m) {s : ByteArray} (hs : Sok s) :
    (Instr.lookup t (.map (some b)) (.string s) false).run Try.prog w = .ok (enc (at_ s)) w ∧ ok (at_ s) := by
  obtain ⟨D, h1, h2, _⟩ := h
  obtain ⟨v, ps, hrun, hv⟩ := h1.lookup key9 ht (E.zero w) (E.make z E.okz) (key9_of hs)
  obtain ⟨x, rfl, hx, hok⟩ := E.inv _ _ hv
  have e1 := h2 s
  rw [Prod.mk.injEq] at hx
  obtain rfl := E.inj _ _ (hx.1.symm.trans e1)
  exact ⟨hrun, hok⟩

theorem MapIs.put (E : Elem e R enc dat ok z) (ht : Try.prog.underlying t = some (.map 9 e)) (h : MapIs R dat z w b at_ there m) (hm : m < maxLen) {s : ByteArray} (hs : Sok s) {x : β} (hx : ok x) :
    ∃ w', (Instr.mapUpdate t (.map (some b)) (.string s) (enc x)).run Try.prog w = .ok () w' ∧ MapIs R dat z w' b (fun k => if k = s then x else at_ k) (fun k => decide (k = s) || there k) (if there s then m else m + 1) ∧ w.grownBy w' (some b) := by
  obtain ⟨D, h1, h2, h3, h4⟩ := h
  obtain ⟨w', hrun, h5, h6⟩ := h1.update key9 ht hm (key9_of hs) (E.make x hx)
  have hT := h1.tidy key9
  have hsz : size (D.put (keyL s) (dat x)) = if there s then m else m + 1 := by rw [size_put hT, h3 s, h4]
  refine ⟨w', hrun, ⟨_, by have := tight h5; rwa [hsz] at this, fun k => ?_, fun k => ?_, hsz⟩, h6⟩
  · by_cases hk : k = s
    · subst hk; simp [atKey_put_same hT.isMap (keyL_is k)]
    · simp [hk, atKey_put_other (keyL_ne hk), h2]
  · by_cases hk : k = s
    · subst hk; simp [has_put_same hT.isMap (keyL_is k)]
    · rw [has_put_other (keyL_ne hk), h3]; simp [hk]

theorem MapIs.del (ht : Try.prog.underlying t = some (.map 9 e)) (h : MapIs R dat z w b at_ there m) {s : ByteArray} (hs : Sok s) (ty : TypeId) :
    ∃ w', (Builtin.delete_ #[t, 9] ty #[.map (some b), .string s]).run Try.prog w = .ok (.tuple #[]) w' ∧ MapIs R dat z w' b (fun k => if k = s then z else at_ k) (fun k => !decide (k = s) && there k) (if there s then m - 1 else m) ∧ w.grownBy w' (some b) := by
  obtain ⟨D, h1, h2, h3, h4⟩ := h
  obtain ⟨w', hrun, h5, h6⟩ := h1.drop key9 ht (key9_of hs) ty
  have hT := h1.tidy key9
  have hsz : size (D.del (keyL s)) = if there s then m - 1 else m := by
    have := size_del (k := keyL s) hT
    rw [h3 s, h4] at this
    split <;> simp_all <;> omega
  refine ⟨w', hrun, ⟨_, by have := tight h5; rwa [hsz] at this, fun k => ?_, fun k => ?_, hsz⟩, h6.grown⟩
  · by_cases hk : k = s
    · subst hk; simp [atKey_del_same]
    · simp [hk, atKey_del_other (keyL_ne hk), h2]
  · by_cases hk : k = s
    · subst hk; simp [has_del_same]
    · rw [has_del_other (keyL_ne hk), h3]; simp [hk]

theorem MapIs.len (ht : Try.prog.underlying t = some (.map 9 e)) (h : MapIs R dat z w b at_ there m) (ty : TypeId) : (Builtin.len_ #[t] ty #[.map (some b)]).run Try.prog w = .ok (.int .i64 (m : Int)) w := by
  obtain ⟨D, h1, h2, h3, h4⟩ := h
  rw [← h4]
  exact h1.len ht ty

/-- 'm[s] = x' at the operation. -/
theorem wp_mput {o : Oper} {a : Act} {K : Act → World → Prop} {Q : Exit → Act → World → Prop} (mo so vo : Operand) (ho : o.op = Op.mapUpdate t mo so vo) (E : Elem e R enc dat ok z) (ht : Try.prog.underlying t = some (.map 9 e)) (hm : a.eval mo = .map (some b))
    (h : MapIs R dat z w b at_ there m) (hlt : m < maxLen) {s : ByteArray} (hs : Sok s) (hse : a.eval so = .string s) {x : β} (hx : ok x) (hxe : a.eval vo = enc x)
    (hK : ∀ w', MapIs R dat z w' b (fun k => if k = s then x else at_ k) (fun k => decide (k = s) || there k) (if there s then m else m + 1) → w.grownBy w' (some b) → K (a.put o.dst undef) w') : o.wp Try.prog a w K Q := by
  obtain ⟨w', hrun, h1, h2⟩ := h.put E ht hlt hs hx
  unfold Oper.wp
  simp [execOp, ho, hm, hse, hxe, hrun, Result.andThen]
  exact hK w' h1 h2
theorem wpList_mput {ops : Array Oper} {rest : List Oper} {o : Oper} {a : Act} {Q : Exit → Act → World → Prop} (hg : o.guard = none) (mo so vo : Operand) (ho : o.op = Op.mapUpdate t mo so vo) (E : Elem e R enc dat ok z) (ht : Try.prog.underlying t = some (.map 9 e)) (hm : a.eval mo = .map (some b))
    (h : MapIs R dat z w b at_ there m) (hlt : m < maxLen) {s : ByteArray} (hs : Sok s) (hse : a.eval so = .string s) {x : β} (hx : ok x) (hxe : a.eval vo = enc x)
    (hK : ∀ w', MapIs R dat z w' b (fun k => if k = s then x else at_ k) (fun k => decide (k = s) || there k) (if there s then m else m + 1) → w.grownBy w' (some b) → wpList Try.prog ops Q rest (a.put o.dst undef) w') : wpList Try.prog ops Q (o :: rest) a w :=
  wpList_plain hg fun _ hK' => wp_mput mo so vo ho E ht hm h hlt hs hse hx hxe fun w' h1 h2 => hK' _ _ (hK w' h1 h2)
/-- 'delete(m, s)' at the operation. -/
theorem wp_mdel {o : Oper} {a : Act} {K : Act → World → Prop} {Q : Exit → Act → World → Prop} (mo so : Operand) (ho : o.op = Op.call { callee := Callee.builtin Builtin.delete, args := #[mo, so], argTypes := #[t, 9] }) (ht : Try.prog.underlying t = some (.map 9 e)) (hm : a.eval mo = .map (some b))
    (h : MapIs R dat z w b at_ there m) {s : ByteArray} (hs : Sok s) (hse : a.eval so = .string s)
    (hK : ∀ w', MapIs R dat z w' b (fun k => if k = s then z else at_ k) (fun k => !decide (k = s) && there k) (if there s then m - 1 else m) → w.grownBy w' (some b) → K (a.put o.dst (.tuple #[])) w') : o.wp Try.prog a w K Q := by
  obtain ⟨w', hrun, h1, h2⟩ := h.del ht hs o.type
  unfold Oper.wp
  simp [execOp, ho, resolve, invoke, builtin, hm, hse, hrun, Result.andThen]
  exact hK w' h1 h2
theorem wpList_mdel {ops : Array Oper} {rest : List Oper} {o : Oper} {a : Act} {Q : Exit → Act → World → Prop} (hg : o.guard = none) (mo so : Operand) (ho : o.op = Op.call { callee := Callee.builtin Builtin.delete, args := #[mo, so], argTypes := #[t, 9] }) (ht : Try.prog.underlying t = some (.map 9 e)) (hm : a.eval mo = .map (some b))
    (h : MapIs R dat z w b at_ there m) {s : ByteArray} (hs : Sok s) (hse : a.eval so = .string s)
    (hK : ∀ w', MapIs R dat z w' b (fun k => if k = s then z else at_ k) (fun k => !decide (k = s) && there k) (if there s then m - 1 else m) → w.grownBy w' (some b) → wpList Try.prog ops Q rest (a.put o.dst (.tuple #[])) w') : wpList Try.prog ops Q (o :: rest) a w :=
  wpList_plain hg fun _ hK' => wp_mdel mo so ho ht hm h hs hse fun w' h1 h2 => hK' _ _ (hK w' h1 h2)

/-- The same, told otherwise. -/
theorem MapIs.as {at2 : ByteArray → β} {there2 : ByteArray → Bool} {m2 : Nat} (h : MapIs R dat z w b at_ there m) (h1 : ∀ s, at_ s = at2 s) (h2 : ∀ s, there s = there2 s) (h3 : m = m2) : MapIs R dat z w b at2 there2 m2 := by
  obtain rfl : at_ = at2 := funext h1
  obtain rfl : there = there2 := funext h2
  subst h3
  exact h
end

/-! Elements that are ints. -/
theorem intE : Elem 3 (plainElem (H := Unit) Try.prog 3) (Value.int .i64) (fun x => .lit (.int .i64 x)) I64 0 where
  make x h := plainElem_int Try.underlying3 (wf_of h)
  inv v y h := by
    obtain ⟨a, h1, h2, h3⟩ := plainElem_int_inv Try.underlying3 h
    exact ⟨a, h1, h2, of_wf h3⟩
  inj x y h := by simpa using h
  zero w := by kernel_rfl
  okz := by unfold I64; omega
end Go.Proofs.Ytlopndnjkphdnaa
