import Derived.Test.YtmehhgfbnfbnaaaGreatQInodeB
import Derived.Test.YtmehhgfbnfbnaaaGreatQTk
set_option maxRecDepth 100000
set_option maxHeartbeats 25600000
namespace Go.Proofs.YtmehhgfbnfbnaaaGreat.Z9
open Go.RowKit
end Go.Proofs.YtmehhgfbnfbnaaaGreat.Z9
