/-
  Maps whose keys are ints, as they are seen from outside; a map that counts.
  No condition is set.
-/
import Derived.Test.YtnahccdjeilboaaG2
import Derived.Test.YtnahccdjeilboaaRows
import Derived.Maps.RangeWalk
import Derived.Maps.OwnOps
import Derived.OpenShut
namespace Go.Proofs.Ytnahccdjeilboaa.Prc
open Go.RowKit Go.Maps Go.ChangeShapes Go.WideShapes Apart

/-- A key. -/
def keyL (s : Int) : Lit := .int .i64 s
theorem keyL_is (s : Int) : WideAt.IsKeyLit (keyL s) := trivial
theorem keyL_ne {s t : Int} (h : s ≠ t) : keyL s ≠ keyL t := fun e => h (by simpa [keyL] using e)
theorem keyL_same (s t : Int) : (keyL s).sameKey (keyL t) = decide (s = t) := by simp [keyL, Lit.sameKey]
theorem key3 : Keyed Try.prog 3 := int_keyed Try.underlying3
/-- An int is one. -/
def I64 (s : Int) : Prop := -9223372036854775808 ≤ s ∧ s ≤ 9223372036854775807
theorem wf_of {s : Int} (h : I64 s) : (Lit.int .i64 s).wf = true := WalkArith.wf_i64 h
theorem of_wf {s : Int} (h : (Lit.int .i64 s).wf = true) : I64 s := by
  have := bounds_i64 h
  unfold I64; omega
theorem key3_of {s : Int} (h : I64 s) : keyOf Try.prog 3 (.int .i64 s) = some (keyL s) := keyOf_int_mk Try.underlying3 (wf_of h)

/-- Elements of a kind: how they lie, how they read. -/
structure Elem {β : Type} (e : TypeId) (R : Value → Option (DataW Unit × List MemPlace)) (enc : β → Value) (dat : β → DataW Unit) (ok : β → Prop) (z : β) : Prop where
  make : ∀ x, ok x → R (enc x) = some (dat x, [])
  inv : ∀ v y, R v = some y → ∃ x, v = enc x ∧ y = (dat x, []) ∧ ok x
  inj : ∀ x y, dat x = dat y → x = y
  zero : ∀ w, (zeroValue e).run Try.prog w = .ok (enc z) w
  okz : ok z

section
variable {β : Type} {e t : TypeId} {R : Value → Option (DataW Unit × List MemPlace)} {enc : β → Value} {dat : β → DataW Unit} {ok : β → Prop} {z : β}

/-- A map in a block: at a key s stands at_ s; it has m keys. -/
def MapIs (R : Value → Option (DataW Unit × List MemPlace)) (dat : β → DataW Unit) (z : β) (w : World) (b : Nat) (at_ : Int → β) (there : Int → Bool) (m : Nat) : Prop :=
  ∃ D : DataW Unit, w.ownsMap Try.prog 3 R b m D ∧ (∀ s, D.atKey (keyL s) (dat z) = dat (at_ s)) ∧ (∀ s, has D (keyL s) = there s) ∧ size D = m

theorem tight {w : World} {b n : Nat} {D : DataW Unit} (h : w.ownsMap Try.prog 3 R b n D) : w.ownsMap Try.prog 3 R b (size D) D := by
  obtain ⟨es, clock, hb, F, hs, rfl⟩ := h
  exact ⟨es, clock, hb, F, by simp [size, length_sorted], rfl⟩

variable {w : World} {b m : Nat} {at_ : Int → β} {there : Int → Bool}

theorem MapIs.lt (h : MapIs R dat z w b at_ there m) : b < w.heap.size := by
  obtain ⟨D, h1, _⟩ := h
  exact h1.lt
theorem MapIs.keep {w' : World} (h : MapIs R dat z w b at_ there m) (hb : w'.heap[b]? = w.heap[b]?) : MapIs R dat z w' b at_ there m := by
  obtain ⟨D, ⟨es, clock, h1, h2⟩, h3⟩ := h
  exact ⟨D, ⟨es, clock, hb.trans h1, h2⟩, h3⟩
theorem MapIs.isMap (h : MapIs R dat z w b at_ there m) : ∃ es clock, w.heap[b]? = some (.map es clock) := by
  obtain ⟨D, ⟨es, clock, h1, _⟩, _⟩ := h
  exact ⟨es, clock, h1⟩
theorem MapIs.made (w : World) (R : Value → Option (DataW Unit × List MemPlace)) (dat : β → DataW Unit) (z : β) : MapIs R dat z (w.alloc (.map #[] 0)) w.heap.size (fun _ => z) (fun _ => false) 0 :=
  ⟨.map [], World.ownsMap_made w Try.prog 3 R, fun _ => rfl, fun _ => rfl, rfl⟩

theorem MapIs.look (E : Elem e R enc dat ok z) (ht : Try.prog.underlying t = some (.map 3 e)) (h : MapIs R dat z w b at_ there m) {s : Int} (hs : I64 s) :
    (Instr.lookup t (.map (some b)) (.int .i64 s) false).run Try.prog w = .ok (enc (at_ s)) w ∧ ok (at_ s) := by
  obtain ⟨D, h1, h2, _⟩ := h
  obtain ⟨v, ps, hrun, hv⟩ := h1.lookup key3 ht (E.zero w) (E.make z E.okz) (key3_of hs)
  obtain ⟨x, rfl, hx, hok⟩ := E.inv _ _ hv
  have e1 := h2 s
  rw [Prod.mk.injEq] at hx
  obtain rfl := E.inj _ _ (hx.1.symm.trans e1)
  exact ⟨hrun, hok⟩

theorem MapIs.put (E : Elem e R enc dat ok z) (ht : Try.prog.underlying t = some (.map 3 e)) (h : MapIs R dat z w b at_ there m) (hm : m < maxLen) {s : Int} (hs : I64 s) {x : β} (hx : ok x) :
    ∃ w', (Instr.mapUpdate t (.map (some b)) (.int .i64 s) (enc x)).run Try.prog w = .ok () w' ∧ MapIs R dat z w' b (fun k => if k = s then x else at_ k) (fun k => k == s || there k) (if there s then m else m + 1) ∧ w.grownBy w' (some b) := by
  obtain ⟨D, h1, h2, h3, h4⟩ := h
  obtain ⟨w', hrun, h5, h6⟩ := h1.update key3 ht hm (key3_of hs) (E.make x hx)
  have hT := h1.tidy key3
  have hsz : size (D.put (keyL s) (dat x)) = if there s then m else m + 1 := by rw [size_put hT, h3 s, h4]
  refine ⟨w', hrun, ⟨_, by have := tight h5; rwa [hsz] at this, fun k => ?_, fun k => ?_, hsz⟩, h6⟩
  · by_cases hk : k = s
    · subst hk; simp [atKey_put_same hT.isMap (keyL_is k)]
    · simp [hk, atKey_put_other (keyL_ne hk), h2]
  · by_cases hk : k = s
    · subst hk; simp [has_put_same hT.isMap (keyL_is k)]
    · rw [has_put_other (keyL_ne hk), h3]; simp [hk]

theorem MapIs.del (ht : Try.prog.underlying t = some (.map 3 e)) (h : MapIs R dat z w b at_ there m) {s : Int} (hs : I64 s) (ty : TypeId) :
    ∃ w', (Builtin.delete_ #[t, 3] ty #[.map (some b), .int .i64 s]).run Try.prog w = .ok (.tuple #[]) w' ∧ MapIs R dat z w' b (fun k => if k = s then z else at_ k) (fun k => k != s && there k) (if there s then m - 1 else m) ∧ w.grownBy w' (some b) := by
  obtain ⟨D, h1, h2, h3, h4⟩ := h
  obtain ⟨w', hrun, h5, h6⟩ := h1.drop key3 ht (key3_of hs) ty
  have hT := h1.tidy key3
  have hsz : size (D.del (keyL s)) = if there s then m - 1 else m := by
    have := size_del (k := keyL s) hT
    rw [h3 s, h4] at this
    split <;> simp_all <;> omega
  refine ⟨w', hrun, ⟨_, by have := tight h5; rwa [hsz] at this, fun k => ?_, fun k => ?_, hsz⟩, h6.grown⟩
  · by_cases hk : k = s
    · subst hk; simp [atKey_del_same]
    · simp [hk, atKey_del_other (keyL_ne hk), h2]
  · by_cases hk : k = s
    · subst hk; simp [has_del_same]
    · rw [has_del_other (keyL_ne hk), h3]; simp [hk]

theorem MapIs.len (ht : Try.prog.underlying t = some (.map 3 e)) (h : MapIs R dat z w b at_ there m) (ty : TypeId) : (Builtin.len_ #[t] ty #[.map (some b)]).run Try.prog w = .ok (.int .i64 (m : Int)) w := by
  obtain ⟨D, h1, h2, h3, h4⟩ := h
  rw [← h4]
  exact h1.len ht ty

/-- 'm[s] = x' at the operation. -/
theorem wp_mput {o : Oper} {a : Go.Act} {K : Go.Act → World → Prop} {Q : Exit → Go.Act → World → Prop} (mo so vo : Operand) (ho : o.op = Op.mapUpdate t mo so vo) (E : Elem e R enc dat ok z) (ht : Try.prog.underlying t = some (.map 3 e)) (hm : a.eval mo = .map (some b))
    (h : MapIs R dat z w b at_ there m) (hlt : m < maxLen) {s : Int} (hs : I64 s) (hse : a.eval so = .int .i64 s) {x : β} (hx : ok x) (hxe : a.eval vo = enc x)
    (hK : ∀ w', MapIs R dat z w' b (fun k => if k = s then x else at_ k) (fun k => k == s || there k) (if there s then m else m + 1) → w.grownBy w' (some b) → K (a.put o.dst undef) w') : o.wp Try.prog a w K Q := by
  obtain ⟨w', hrun, h1, h2⟩ := h.put E ht hlt hs hx
  unfold Oper.wp
  simp [execOp, ho, hm, hse, hxe, hrun, Result.andThen]
  exact hK w' h1 h2
theorem wpList_mput {ops : Array Oper} {rest : List Oper} {o : Oper} {a : Go.Act} {Q : Exit → Go.Act → World → Prop} (hg : o.guard = none) (mo so vo : Operand) (ho : o.op = Op.mapUpdate t mo so vo) (E : Elem e R enc dat ok z) (ht : Try.prog.underlying t = some (.map 3 e)) (hm : a.eval mo = .map (some b))
    (h : MapIs R dat z w b at_ there m) (hlt : m < maxLen) {s : Int} (hs : I64 s) (hse : a.eval so = .int .i64 s) {x : β} (hx : ok x) (hxe : a.eval vo = enc x)
    (hK : ∀ w', MapIs R dat z w' b (fun k => if k = s then x else at_ k) (fun k => k == s || there k) (if there s then m else m + 1) → w.grownBy w' (some b) → wpList Try.prog ops Q rest (a.put o.dst undef) w') : wpList Try.prog ops Q (o :: rest) a w :=
  wpList_plain hg fun _ hK' => wp_mput mo so vo ho E ht hm h hlt hs hse hx hxe fun w' h1 h2 => hK' _ _ (hK w' h1 h2)
end
theorem intE : Elem 3 (plainElem (H := Unit) Try.prog 3) (Value.int .i64) (fun x => .lit (.int .i64 x)) I64 0 where
  make x h := plainElem_int Try.underlying3 (wf_of h)
  inv v y h := by
    obtain ⟨a, h1, h2, h3⟩ := plainElem_int_inv Try.underlying3 h
    exact ⟨a, h1, h2, of_wf h3⟩
  inj x y h := by simpa using h
  zero w := by kernel_rfl
  okz := by unfold I64; omega
/-- A map that counts. -/
def Cm (u : World) (g : Nat) (f : Nat → Nat) (N : Nat) : Prop := ∃ (at_ : Int → Int) (th : Int → Bool) (n : Nat), MapIs (plainElem (H := Unit) Try.prog 3) (fun x => .lit (.int .i64 x)) 0 u g at_ th n ∧ n ≤ N ∧ ∀ r : Nat, at_ (r : Int) = (f r : Int)
section
variable {w w' : World} {g N : Nat} {f : Nat → Nat}
theorem Cm.lt (h : Cm w g f N) : g < w.heap.size := by
  obtain ⟨at_, th, n, h1, -⟩ := h
  exact h1.lt
theorem Cm.keep (h : Cm w g f N) (hk : w'.heap[g]? = w.heap[g]?) : Cm w' g f N := by
  obtain ⟨at_, th, n, h1, h2⟩ := h
  exact ⟨at_, th, n, h1.keep hk, h2⟩
theorem Cm.below (h : Cm w g f N) (hb : Below w.heap.size w w') : Cm w' g f N := h.keep (hb.block g h.lt)
theorem Cm.as {f2 : Nat → Nat} (h : Cm w g f N) (hf : ∀ r, f r = f2 r) : Cm w g f2 N := by
  obtain ⟨at_, th, n, h1, h2, h3⟩ := h
  exact ⟨at_, th, n, h1, h2, fun r => by rw [← hf r]; exact h3 r⟩
theorem Cm.made (w : World) : Cm (w.alloc (.map #[] 0)) w.heap.size (fun _ => 0) 0 := ⟨fun _ => 0, fun _ => false, 0, MapIs.made w _ _ _, Nat.le_refl _, fun _ => rfl⟩
set_option maxRecDepth 100000 in
theorem Cm.look (h : Cm w g f N) {r : Nat} (hr : r ≤ 1000000) : (Instr.lookup 61 (.map (some g)) (.int .i64 (r : Int)) false).run Try.prog w = .ok (.int .i64 (f r : Int)) w := by
  obtain ⟨at_, th, n, h1, h2, h3⟩ := h
  have := (h1.look (t := 61) intE rfl (s := (r : Int)) ⟨by omega, by omega⟩).1
  rwa [h3 r] at this
set_option maxRecDepth 100000 in
theorem wpList_cm {ops : Array Oper} {rest : List Oper} {o : Oper} {a : Go.Act} {Q : Exit → Go.Act → World → Prop} (hg : o.guard = none) (mo so vo : Operand) (ho : o.op = Op.mapUpdate 61 mo so vo) (h : Cm w g f N) (hN : N ≤ 1000) {r : Nat} (hr : r ≤ 1000000) (hm : a.eval mo = .map (some g)) {z1 z2 : Int} (hse : a.eval so = .int .i64 z1) (hz1 : z1 = (r : Int)) (hf : f r ≤ 1000000) (hxe : a.eval vo = .int .i64 z2) (hz2 : z2 = (f r : Int) + 1)
    (hK : ∀ w', Cm w' g (fun k => if k = r then f r + 1 else f k) (N + 1) → w.grownBy w' (some g) → wpList Try.prog ops Q rest (a.put o.dst undef) w') : wpList Try.prog ops Q (o :: rest) a w := by
  subst hz1
  obtain rfl : z2 = ((f r + 1 : Nat) : Int) := by omega
  obtain ⟨at_, th, n, h1, h2, h3⟩ := h
  refine wpList_mput hg mo so vo ho intE rfl hm h1 (by unfold maxLen; omega) (s := (r : Int)) ⟨by omega, by omega⟩ hse (x := ((f r + 1 : Nat) : Int)) ⟨by omega, by omega⟩ hxe (fun w' h4 h5 => hK w' ⟨_, _, _, h4, by split <;> omega, fun k => ?_⟩ h5)
  by_cases hk : k = r
  · subst hk
    simp
  · have h6 : ¬ (k : Int) = (r : Int) := by omega
    show (if (k : Int) = (r : Int) then ((f r + 1 : Nat) : Int) else at_ (k : Int)) = ((if k = r then f r + 1 else f k : Nat) : Int)
    rw [if_neg h6, if_neg hk]
    exact h3 k
end

end Go.Proofs.Ytnahccdjeilboaa.Prc
