/-
  Lists of sectors compared; what is known compared with itself in another place.
-/
import Derived.Test.YtaflpigpeckhoaaGreatQMetaA
import Derived.Test.YtaflpigpeckhoaaGreatQInternB
import Derived.Test.YtaflpigpeckhoaaGreatQInodeA
import Derived.BigQuiet
import Derived.Deep.QuietTactic
namespace Go.Proofs.YtaflpigpeckhoaaGreat.Meta
open Go.Proofs.YtaflpigpeckhoaaGreat
open Go.RowKit

theorem below_drewN {B : Nat} {a w : World} (h : Below B a w) (n : Nat) : Below B a (w.drewN n) := ⟨h.os, h.tape, h.output, h.size, h.block⟩
theorem str_sec {w : World} {B : Nat} {A : Option Addr} {l : List UInt8} {n c : Nat} (hn : l.length = n) (hr : Rd w B A (bytesV l)) : (convert 33 9 (.slice A n c)).run Tryz.prog w = .ok (.string ⟨l.toArray⟩) w :=
  run_str w 33 9 5 Tryz.underlying33 Tryz.underlying5 Tryz.underlying9 B A n c l hn hr
theorem str_cmp (x y : List UInt8) : ((⟨x.toArray⟩ : ByteArray).toList == (⟨y.toArray⟩ : ByteArray).toList) = (x == y) := by
  rw [ByteArray.toList_eq, ByteArray.toList_eq]
theorem ret_b2 {a b : Bool} (h : a = b) : Ending.returned (.bool a) = .returned (.bool b) := by rw [h]
end Go.Proofs.YtaflpigpeckhoaaGreat.Meta
