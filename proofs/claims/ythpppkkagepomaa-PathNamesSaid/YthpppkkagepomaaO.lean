/-
  What a statement's last part wants of this program.
-/
import Derived.Test.YthpppkkagepomaaC
import Derived.Test.YthpppkkagepomaaPathF
import Derived.Lib.SmallJoins
namespace Go.Proofs.Ythpppkkagepomaa
open Go.RowKit Go.ChangeShapes Go.WideShapes Go.ChangeAt Go.Deep Go.Joins

theorem own : ownKnob Try.prog.godebug = none := by kernel_rfl
theorem laid : laidOutB Try.prog = true := by kernel_rfl
theorem cells9 : Try.prog.cellsOf 9 = 1 := by kernel_rfl
end Go.Proofs.Ythpppkkagepomaa
