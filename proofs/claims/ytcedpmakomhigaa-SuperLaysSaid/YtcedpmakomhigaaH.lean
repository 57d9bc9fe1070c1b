/-
  A region that draws its order, walked while a condition on the world is held: the condition may be made stronger on the way (what a call has handed back is known from then on).
-/
import Derived.Deep.RegionHeld3
namespace Go.Proofs.Ytcedpmakomhigaa
open Go

section
variable {P : Program} {md : Region.Mode} {ops : Array Oper} {Q : Exit → Act → World → Prop} {S T : World → Prop}
theorem held_strong (h : ∀ w, T w → S w) : ∀ (fuel : Nat) (listed : Array Bool) (a : Act) (w : World), wpAnyH P md ops Q T fuel listed a w → wpAnyH P md ops Q S fuel listed a w
  | 0, _, _, _, k => k
  | fuel + 1, _, _, _, k => ⟨k.1, fun i hi => wpOp_mono (fun _ w' h' => ⟨h w' h'.1, held_strong h fuel _ _ _ h'.2⟩) (k.2 i hi)⟩
end
end Go.Proofs.Ytcedpmakomhigaa
