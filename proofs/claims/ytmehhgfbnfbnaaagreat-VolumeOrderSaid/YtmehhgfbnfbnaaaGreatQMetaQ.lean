import Derived.Test.YtmehhgfbnfbnaaaGreatQMetaA
import Derived.Test.YtmehhgfbnfbnaaaGreatQInternB
import Derived.Test.YtmehhgfbnfbnaaaGreatQInodeA
import Derived.Test.YtmehhgfbnfbnaaaGreatQTk
import Derived.BigQuiet
import Derived.Deep.QuietTactic
set_option maxRecDepth 100000
set_option maxHeartbeats 25600000
namespace Go.Proofs.YtmehhgfbnfbnaaaGreat.Meta
open Go.Proofs.YtmehhgfbnfbnaaaGreat
open Go.RowKit
theorem below_drewN{B:Nat}{a w:World}(h:Below B a w)(n:Nat):Below B a (w.drewN n):=⟨h.os,h.tape,h.output,h.size,h.block⟩
end Go.Proofs.YtmehhgfbnfbnaaaGreat.Meta
