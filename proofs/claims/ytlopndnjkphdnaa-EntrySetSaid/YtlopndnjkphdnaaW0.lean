/-
  The small functions of package field and of the document's own answer (tests of sizes and places, powers of 256, the number that stands at a place): what each call returns.
-/
import Derived.Test.YtlopndnjkphdnaaRows
import Derived.Test.YtlopndnjkphdnaaL
import Derived.WalkKit
import Derived.WalkSpells
import Derived.BigQuiet
import Derived.Deep.QuietTactic
import Derived.Lib.Hide
namespace Go.Proofs.Ytlopndnjkphdnaa
open Go.RowKit

end Go.Proofs.Ytlopndnjkphdnaa
