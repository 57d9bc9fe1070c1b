/-
  The small functions of package field and of the document's own answer (tests of sizes and places, powers of 256, the number that stands at a place): what each call returns.
-/
import Derived.Test.YthpppkkagepomaaRows
import Derived.Test.YthpppkkagepomaaL
import Derived.WalkKit
import Derived.WalkSpells
import Derived.BigQuiet
import Derived.Deep.QuietTactic
import Derived.Lib.Hide
namespace Go.Proofs.Ythpppkkagepomaa
open Go.RowKit

end Go.Proofs.Ythpppkkagepomaa
