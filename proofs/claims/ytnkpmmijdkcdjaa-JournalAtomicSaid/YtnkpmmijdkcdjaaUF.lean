/-
  Sectors that are all one byte, as a text; a disk that is all ours.
-/
import Derived.Test.YtnkpmmijdkcdjaaU4
import Derived.Test.YtnkpmmijdkcdjaaH
namespace Go.Proofs.Ytnkpmmijdkcdjaa
open Go.RowKit
attribute [local go_sem ↓] Go.wp_at_zero Go.wp_at_succ

/-- The text of bytes that are all the same. -/
def strS (c : Nat) : ByteArray := ⟨(List.replicate 64 (UInt8.ofNat c)).toArray⟩
theorem same_bytes (c : Nat) (hc : c < 256) : same c = bytesV (List.replicate 64 (UInt8.ofNat c)) := by
  have h : (UInt8.ofNat c).toNat = c := by simp; omega
  simp only [same, bytesV, List.map_replicate, byteV, h]
theorem conv_any {w : World} {g : Nat} {e : TypeId} {c : Nat} (h : Bk w g e (same c)) (hc : c < 256) : (convert 39 9 (.slice (some ⟨g, 0, none⟩) 64 64)).run Try.prog w = .ok (.string (strS c)) w := by
  have h2 := h.rd 64 0
  rw [List.drop_zero, List.take_of_length_le (by rw [same_length]; exact Nat.le_refl _), same_bytes c hc] at h2
  exact run_str w 39 9 5 Try.underlying39 Try.underlying5 Try.underlying9 _ _ 64 64 _ (by simp) h2
theorem strS_same (c : Nat) : ((strS c).toList == (strS c).toList) = true := by simp
/-- A disk of ours: all its blocks are new. -/
def Mine (B : Nat) (w : World) (b : Nat) (k : Dk Nat) (S : Nat → Prop) : Prop := IsDisk sec w S b k ∧ ∀ i, S i → B ≤ i
theorem Mine.turn {B : Nat} {w w' : World} {b : Nat} {k k' : Dk Nat} {S : Nat → Prop} (h : Mine B w b k S) (ht : Turned sec S w w' b k') (hB : B ≤ w.heap.size) : (∃ S', Mine B w' b k' S') ∧ Below B w w' := by
  obtain ⟨hK, S', hD, hS⟩ := ht
  refine ⟨⟨S', hD, fun i hi => ?_⟩, hK.below h.2 hB⟩
  rcases hS i hi with hs | hs
  · exact h.2 i hs
  · omega
theorem Mine.below {B : Nat} {w w' : World} {b : Nat} {k : Dk Nat} {S : Nat → Prop} (h : Mine B w b k S) (hb : Below w.heap.size w w') : Mine B w' b k S := ⟨h.1.below hb, h.2⟩
theorem Mine.new {B : Nat} {w : World} {b : Nat} {k : Dk Nat} {S : Nat → Prop} (h : Mine B w b k S) {g : Nat} (hg : w.heap.size ≤ g) : ¬ S g := fun hs => by
  have := h.1.lt hs
  omega

end Go.Proofs.Ytnkpmmijdkcdjaa
