/-
  The statements' own small functions: small, few.
-/
import Derived.Test.YtcjkbmmjpkghlaaGreatQMetaU
namespace Go.Proofs.YtcjkbmmjpkghlaaGreat.Meta
open Go.Proofs.YtcjkbmmjpkghlaaGreat
open Go.RowKit

def smallB (rn on_ un in_ : Nat) : Bool := decide (rn ≤ 100) && decide (on_ ≤ 100) && decide (un ≤ 200) && decide (in_ ≤ 100)
/-- How many lists few leaves. -/
def fewN : Nat → List (List UInt8) → Nat
  | 0, _ => 0
  | _, [] => 0
  | b + 1, s :: l => if s.length ≤ 100 then fewN b l + 1 else 0
theorem fewN_zero (l : List (List UInt8)) : fewN 0 l = 0 := by cases l <;> rfl
theorem fewN_nil (b : Nat) : fewN b [] = 0 := by cases b <;> rfl
theorem fewN_le (b : Nat) : ∀ l : List (List UInt8), fewN b l ≤ b ∧ fewN b l ≤ l.length := by
  induction b with
  | zero => intro l; rw [fewN_zero]; exact ⟨Nat.le_refl _, Nat.zero_le _⟩
  | succ b ih =>
    intro l
    cases l with
    | nil => rw [fewN_nil]; exact ⟨Nat.zero_le _, Nat.zero_le _⟩
    | cons s l =>
      have := ih l
      unfold fewN
      split
      · simp only [List.length_cons]; omega
      · exact ⟨Nat.zero_le _, Nat.zero_le _⟩
theorem fewN_len (b : Nat) : ∀ (l : List (List UInt8)), ∀ s ∈ l.take (fewN b l), s.length ≤ 100 := by
  induction b with
  | zero => intro l s hs; rw [fewN_zero] at hs; simp at hs
  | succ b ih =>
    intro l s hs
    cases l with
    | nil => simp at hs
    | cons t l =>
      unfold fewN at hs
      split at hs
      · rename_i ht
        rw [List.take_succ_cons] at hs
        rcases List.mem_cons.1 hs with h | h
        · rw [h]; exact ht
        · exact ih l s h
      · simp at hs
theorem fewN_at {b a : Nat} {l : List (List UInt8)} {s : List UInt8} (hb : a < b) (hs : l[a]? = some s) : fewN (b - a) (l.drop a) = if s.length ≤ 100 then fewN (b - (a + 1)) (l.drop (a + 1)) + 1 else 0 := by
  have hl := (List.getElem?_eq_some_iff.1 hs)
  obtain ⟨hl, he⟩ := hl
  rw [List.drop_eq_getElem_cons hl, he, show b - a = b - (a + 1) + 1 by omega]
  rfl
theorem SecsAt.few {w : World} {B : Nat} {A : Option Addr} {L : List Sc} {l : List (List UInt8)} (h : SecsAt w B A L l) (k : Nat) : SecsAt w B A (L.take k) (l.take k) := by
  have hz : secsV (L.take k) (l.take k) = (secsV L l).take k := by
    unfold secsV
    rw [List.zip_eq_zipWith, List.zip_eq_zipWith, ← List.take_zipWith, List.map_take]
  refine ⟨by rw [List.length_take, List.length_take, h.len], ?_, fun i s b h1 h2 => ?_⟩
  · rw [hz]
    rcases h.rd with h0 | ⟨b, o, h1, h2, h3⟩
    · exact .inl (by rw [h0]; simp)
    · refine .inr ⟨b, o, h1, h2, fun j u hu => h3 j u ?_⟩
      rw [List.getElem?_take] at hu
      split at hu
      · exact hu
      · cases hu
  · rw [List.getElem?_take] at h1 h2
    split at h1
    · rename_i hik
      rw [if_pos hik] at h2
      exact h.each i s b h1 h2
    · cases h1
end Go.Proofs.YtcjkbmmjpkghlaaGreat.Meta
