import Derived.Test.YtmehhgfbnfbnaaaGreatQMetaA
import Derived.Test.YtmehhgfbnfbnaaaGreatQSuper
import Derived.Test.YtmehhgfbnfbnaaaGreatQInternA
import Derived.Test.YtmehhgfbnfbnaaaGreatQInodeA
import Derived.Test.YtmehhgfbnfbnaaaGreatQBits
import Derived.Test.YtmehhgfbnfbnaaaGreatQTk
import Derived.WalkMore
import Derived.Deep.DeepCutAuto
set_option maxRecDepth 100000
set_option maxHeartbeats 25600000
namespace Go.Proofs.YtmehhgfbnfbnaaaGreat.Meta
open Go.Proofs.YtmehhgfbnfbnaaaGreat
open Go.RowKit
theorem ny{G:Geo}{m:Met}(h:¬ G.Ok):ZP G m=false:=ZN fun h'=>h h'.YV
theorem Tq{a b:Bool}(h:a=b):Ending.returned (.bool b)=.returned (.bool a):=by rw[h]
theorem uJ:(Tryz.prog.info? 40).map (·.size)=some 14:=by kernel_rfl
theorem zB(n:Z9.ZC)(h:Z9.ZP n=true):Z9.Right n:=by
 by_cases hr:Z9.Right n
 ·exact hr
 ·rw[Z9.ZN hr]at h
  cases h
theorem zA(l:List Z8.Rw)(h:Z8.ZP l=true):Z8.Right l:=by
 by_cases hr:Z8.Right l
 ·exact hr
 ·rw[Z8.ZN hr]at h
  cases h
end Go.Proofs.YtmehhgfbnfbnaaaGreat.Meta
