import Derived.Test.YtmehhgfbnfbnaaaGreatQMetaB
import Derived.Test.YtmehhgfbnfbnaaaGreatQMetaT
import Derived.Test.YtmehhgfbnfbnaaaGreatQTk
import Derived.Deep.RegionWith
set_option maxRecDepth 100000
set_option maxHeartbeats 25600000
namespace Go.Proofs.YtmehhgfbnfbnaaaGreat.Meta
open Go.Proofs.YtmehhgfbnfbnaaaGreat
open Go.RowKit
theorem Jj{V:World}{b g:Nat}{e:TypeId}{xs:List Value}(h:Bk V g e xs)(hne:g≠b)(a0 a1 a2 a3:Value):Bk (X6 V b a0 a1 a2 a3) g e xs:=MC (MC (MC (MC h _ _ hne) _ _ hne) _ _ hne) _ _ hne
end Go.Proofs.YtmehhgfbnfbnaaaGreat.Meta
