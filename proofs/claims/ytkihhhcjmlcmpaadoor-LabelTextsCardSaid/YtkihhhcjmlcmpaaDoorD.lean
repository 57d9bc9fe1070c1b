/-
  A world for the witness of each statement: the settled one, with the library's tables laid as the rows list them; the facts on the program that every statement's last part asks for.
-/
import Derived.Test.YtkihhhcjmlcmpaaDoorF
import Derived.Test.YtkihhhcjmlcmpaaDoorC
import Derived.Test.YtkihhhcjmlcmpaaDoorCards
import Derived.Test.YtkihhhcjmlcmpaaDoorTie
import Derived.Deep.DeepHandedRow
import Derived.Lib.LaidTab
namespace Go.Proofs.YtkihhhcjmlcmpaaDoor
open Go.ChangeShapes Go.WideShapes Go.ChangeAt Go.RowKit

theorem own : ownKnob Tryd.prog.godebug = none := by kernel_rfl
theorem laid : laidOutB Tryd.prog = true := by kernel_rfl
theorem cells3 : Tryd.prog.cellsOf 3 = 1 := by kernel_rfl
/-- The numbers of a table, in their order. -/
def leaves : Nat → DataW Unit → List Value
  | _, .lit (.int k n) => [.int k n]
  | f + 1, .agg l => l.flatMap (leaves f)
  | _, _ => []
def table : Nat → List Value
  | 1 => leaves 3 Rows.laid_internal_strconv_uint64pow10
  | 2 => leaves 3 Rows.laid_unicode_utf8_first
  | 3 => leaves 3 Rows.laid_unicode_utf8_acceptRanges
  | 4 => leaves 3 Rows.laid_math_bits_deBruijn32tab
  | 5 => leaves 3 Rows.laid_math_bits_deBruijn64tab
  | _ => []
def layTable (b : Nat) : Obj → Obj
  | .cells _ t frozen => .cells (table b).toArray t frozen
  | o => o
noncomputable def laidWorld (os : Os) : World :=
  { World.holding Tryd.prog os ⟨#[], #[], []⟩ with heap := (((((World.holding Tryd.prog os ⟨#[], #[], []⟩).heap.modify 1 (layTable 1)).modify 2 (layTable 2)).modify 3 (layTable 3)).modify 4 (layTable 4)).modify 5 (layTable 5) }
theorem laid_met (os : Os) (args : Array Value) : laidMet Tryd.prog Rows.labelOrderRow.laid ((laidWorld os).forCall (fun _ _ => 0) ⟨#[], args, []⟩).memory :=
  laidMet_of_run' 8 (by kernel_rfl) (by kernel_rfl)
/-- The library's own cell that a search reads is there. -/
theorem maxAt {W : World} (h : W.ShapedOpen Tryd.prog) : MaxAt W := by
  obtain ⟨m, hm⟩ := Tryd.laysM144.s1_3 W h
  have hm' : W.cell? ⟨0, 0, none⟩ = some (.int .i64 m) := hm
  refine ⟨?_, m, hm'⟩
  rcases Nat.eq_zero_or_pos W.heap.size with h0 | h0
  · have : W.heap[0]? = none := Array.getElem?_eq_none (by omega)
    simp [World.cell?, this] at hm'
  · exact h0
theorem plain_of {name : String} {f0 : Nat} {fn0 : Func} (hn : Tryd.prog.funcNamed name = some f0) (h0 : Tryd.prog.funcs[f0]? = some fn0) (hl : false = Tryd.prog.looks []) (hp : fn0.params.toList.all (fun t => !Tryd.prog.wantsStandIn t) = true)
    (f : FuncId) (fn : Func) (hf : Tryd.pinned.checked.prog.funcNamed name = some f) (hfn : Tryd.pinned.checked.prog.funcs[f]? = some fn) :
    false = Tryd.pinned.checked.prog.looks [] ∧ ∀ (j : Nat) t, fn.params[j]? = some t → Tryd.pinned.checked.prog.wantsStandIn t = false := by
  obtain rfl : f = f0 := (Option.some.inj (hn.symm.trans hf)).symm
  obtain rfl : fn = fn0 := (Option.some.inj (h0.symm.trans hfn)).symm
  refine ⟨hl, fun j t ht => ?_⟩
  have hm : t ∈ fn.params.toList := by simpa using Array.mem_of_getElem? ht
  have := List.all_eq_true.1 hp t hm
  exact (show Tryd.prog.wantsStandIn t = false by simpa using this)
theorem no_looks : false = Tryd.prog.looks [] := by kernel_rfl
end Go.Proofs.YtkihhhcjmlcmpaaDoor
