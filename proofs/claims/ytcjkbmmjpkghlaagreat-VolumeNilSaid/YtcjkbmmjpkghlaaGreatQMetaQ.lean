/-
  Lists of sectors compared; what is known compared with itself in another place.
-/
import Derived.Test.YtcjkbmmjpkghlaaGreatQMetaA
import Derived.Test.YtcjkbmmjpkghlaaGreatQInternB
import Derived.Test.YtcjkbmmjpkghlaaGreatQInodeA
import Derived.BigQuiet
import Derived.Deep.QuietTactic
namespace Go.Proofs.YtcjkbmmjpkghlaaGreat.Meta
open Go.Proofs.YtcjkbmmjpkghlaaGreat
open Go.RowKit

theorem below_drewN {B : Nat} {a w : World} (h : Below B a w) (n : Nat) : Below B a (w.drewN n) := ⟨h.os, h.tape, h.output, h.size, h.block⟩
theorem str_sec {w : World} {B : Nat} {A : Option Addr} {l : List UInt8} {n c : Nat} (hn : l.length = n) (hr : Rd w B A (bytesV l)) : (convert 37 9 (.slice A n c)).run Tryz.prog w = .ok (.string ⟨l.toArray⟩) w :=
  run_str w 37 9 5 Tryz.underlying37 Tryz.underlying5 Tryz.underlying9 B A n c l hn hr
theorem str_cmp (x y : List UInt8) : ((⟨x.toArray⟩ : ByteArray).toList == (⟨y.toArray⟩ : ByteArray).toList) = (x == y) := by
  rw [ByteArray.toList_eq, ByteArray.toList_eq]
theorem ret_b2 {a b : Bool} (h : a = b) : Ending.returned (.bool a) = .returned (.bool b) := by rw [h]
end Go.Proofs.YtcjkbmmjpkghlaaGreat.Meta
