import Derived.Test.YtmehhgfbnfbnaaaGreatQMetaU
import Derived.Test.YtmehhgfbnfbnaaaGreatQTk
set_option maxRecDepth 100000
set_option maxHeartbeats 25600000
namespace Go.Proofs.YtmehhgfbnfbnaaaGreat.Meta
open Go.Proofs.YtmehhgfbnfbnaaaGreat
open Go.RowKit
end Go.Proofs.YtmehhgfbnfbnaaaGreat.Meta
