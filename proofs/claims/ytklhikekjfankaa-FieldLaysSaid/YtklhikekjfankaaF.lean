/-
  Facts of this program that every statement's proof wants.
-/
import Derived.Test.YtklhikekjfankaaW4
import Derived.Test.YtklhikekjfankaaC
namespace Go.Proofs.Ytklhikekjfankaa
open Go.ChangeShapes Go.WideShapes Go.ChangeAt Go.RowKit

theorem own : ownKnob Try.prog.godebug = none := by kernel_rfl
theorem laid : laidOutB Try.prog = true := by kernel_rfl
theorem cells5 : Try.prog.cellsOf 5 = 1 := by kernel_rfl
theorem cells23 : Try.prog.cellsOf 23 = 1 := by kernel_rfl
theorem few_len (l : List UInt8) (n : Nat) (hn : l.length = n) : (l.take 5000).length = min n 5000 := by rw [List.length_take, hn]; omega
theorem few_lenN (l : List Nat) (n : Nat) (hn : l.length = n) : (l.take 5000).length = min n 5000 := by rw [List.length_take, hn]; omega
theorem str_nil (W : World) : (convert 22 9 (.slice none 0 0)).run Try.prog W = .ok (.string ⟨#[]⟩) W := run_str W 22 9 5 Try.underlying22 Try.underlying5 Try.underlying9 0 none 0 0 [] rfl (.inl rfl)

end Go.Proofs.Ytklhikekjfankaa
