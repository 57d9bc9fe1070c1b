/-
  What is known of a new disk, as the document answers: four makes, in any order.
-/
import Derived.Test.YtaflpigpeckhoaaGreatQMetaN
namespace Go.Proofs.YtaflpigpeckhoaaGreat.Meta
open Go.Proofs.YtaflpigpeckhoaaGreat
open Go.RowKit

noncomputable def newP (G : Geo) : Met × Nat := if Inode.decB G.Ok then (newM G, 0) else (.z, 1)
theorem newP_yes {G : Geo} (h : G.Ok) : newP G = (newM G, 0) := by unfold newP; rw [Inode.decB_yes h]; rfl
theorem newP_no {G : Geo} (h : ¬ G.Ok) : newP G = (.z, 1) := by unfold newP; rw [Inode.decB_no h]; rfl
end Go.Proofs.YtaflpigpeckhoaaGreat.Meta
