/-
  The document's examples.
-/
import Derived.Test.YtnmfpgeojggjbaaW4
namespace Go.Proofs.Ytnmfpgeojggjbaa
open Go.RowKit
attribute [local go_sem ↓] Go.wp_at_zero Go.wp_at_succ

section
variable {P : Program} {md : Region.Mode} {ops : Array Oper} {Q : Exit → Act → World → Prop} {S T : World → Prop}
theorem held_strong (h : ∀ w, T w → S w) : ∀ (fuel : Nat) (listed : Array Bool) (a : Act) (w : World), wpAnyH P md ops Q T fuel listed a w → wpAnyH P md ops Q S fuel listed a w
  | 0, _, _, _, k => k
  | fuel + 1, _, _, _, k => ⟨k.1, fun i hi => wpOp_mono (fun _ w' h' => ⟨h w' h'.1, held_strong h fuel _ _ _ h'.2⟩) (k.2 i hi)⟩
end

/-- The text of bytes that are all the same. -/
def strS (c : Nat) : ByteArray := ⟨(List.replicate 64 (UInt8.ofNat c)).toArray⟩
theorem same_bytes (c : Nat) (hc : c < 256) : same c = bytesV (List.replicate 64 (UInt8.ofNat c)) := by
  have h : (UInt8.ofNat c).toNat = c := by simp; omega
  simp only [same, bytesV, List.map_replicate, byteV, h]
theorem conv_any {w : World} {g : Nat} {e : TypeId} {c : Nat} (h : Bk w g e (same c)) (hc : c < 256) : (convert 33 9 (.slice (some ⟨g, 0, none⟩) 64 64)).run Try.prog w = .ok (.string (strS c)) w := by
  have h2 := h.rd 64 0
  rw [List.drop_zero, List.take_of_length_le (by rw [same_length]; exact Nat.le_refl _), same_bytes c hc] at h2
  exact run_str w 33 9 5 Try.underlying33 Try.underlying5 Try.underlying9 _ _ 64 64 _ (by simp) h2
theorem strS_same (c : Nat) : ((strS c).toList == (strS c).toList) = true := by simp
/-- A disk of ours: all its blocks are new. -/
def Mine (B : Nat) (w : World) (b : Nat) (k : Dk Nat) (S : Nat → Prop) : Prop := IsDisk sec w S b k ∧ ∀ i, S i → B ≤ i
theorem Mine.turn {B : Nat} {w w' : World} {b : Nat} {k k' : Dk Nat} {S : Nat → Prop} (h : Mine B w b k S) (ht : Turned sec S w w' b k') (hB : B ≤ w.heap.size) : (∃ S', Mine B w' b k' S') ∧ Below B w w' := by
  obtain ⟨hK, S', hD, hS⟩ := ht
  refine ⟨⟨S', hD, fun i hi => ?_⟩, hK.below h.2 hB⟩
  rcases hS i hi with hs | hs
  · exact h.2 i hs
  · omega
theorem Mine.below {B : Nat} {w w' : World} {b : Nat} {k : Dk Nat} {S : Nat → Prop} (h : Mine B w b k S) (hb : Below w.heap.size w w') : Mine B w' b k S := ⟨h.1.below hb, h.2⟩
theorem Mine.new {B : Nat} {w : World} {b : Nat} {k : Dk Nat} {S : Nat → Prop} (h : Mine B w b k S) {g : Nat} (hg : w.heap.size ≤ g) : ¬ S g := fun hs => by
  have := h.1.lt hs
  omega

def k0 : Dk Nat := Dk.fresh 5 0
def k1 : Dk Nat := (k0.write 3 1).2
def k2 : Dk Nat := k1.flush
def k3 : Dk Nat := (k2.write 3 2).2
def k4 : Dk Nat := (k3.write 4 3).2
def k5 : Dk Nat := k4.crash 2

end Go.Proofs.Ytnmfpgeojggjbaa
