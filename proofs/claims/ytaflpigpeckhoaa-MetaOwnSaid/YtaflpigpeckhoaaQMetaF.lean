/-
  The statements' own small functions: small, few.
-/
import Derived.Test.YtaflpigpeckhoaaQMetaU
namespace Go.Proofs.Ytaflpigpeckhoaa.Meta
open Go.Proofs.Ytaflpigpeckhoaa
open Go.RowKit

def smallB (rn on_ un in_ : Nat) : Bool := decide (rn ≤ 100) && decide (on_ ≤ 100) && decide (un ≤ 200) && decide (in_ ≤ 100)
set_option maxHeartbeats 1600000 in
theorem small_in (rA oA uA iA : Option Addr) (rn rc on_ oc un uc in_ ic : Nat) (w : World) :
    Calls Try.prog 10 #[.agg #[.slice rA rn rc, .slice oA on_ oc, .slice uA un uc, .slice iA in_ ic]] w fun e w' => e = .returned (.bool (smallB rn on_ un in_)) ∧ Below w.heap.size w w' := by
  have e1 : decide ((rn : Int) ≤ 100) = decide (rn ≤ 100) := by apply decide_eq_decide.2; omega
  have e2 : decide ((on_ : Int) ≤ 100) = decide (on_ ≤ 100) := by apply decide_eq_decide.2; omega
  have e3 : decide ((un : Int) ≤ 200) = decide (un ≤ 200) := by apply decide_eq_decide.2; omega
  have e4 : decide ((in_ : Int) ≤ 100) = decide (in_ ≤ 100) := by apply decide_eq_decide.2; omega
  unfold smallB
  by_cases h1 : rn ≤ 100
  · by_cases h2 : on_ ≤ 100
    · by_cases h3 : un ≤ 200
      · by_cases h4 : in_ ≤ 100 <;>
        · have k1 : (rn : Int) ≤ 100 := by omega
          have k2 : (on_ : Int) ≤ 100 := by omega
          have k3 : (un : Int) ≤ 200 := by omega
          simp only [h1, h2, h3, h4, decide_true, decide_false, Bool.and_true, Bool.and_false] at *
          go_enter Try.func10, Try.ntmps10
          go_wp2
          go_ret
          exact ⟨rfl, (Below.refl _ _).alloc (Nat.le_refl _) _⟩
      · have k1 : (rn : Int) ≤ 100 := by omega
        have k2 : (on_ : Int) ≤ 100 := by omega
        have k3 : ¬ (un : Int) ≤ 200 := by omega
        simp only [h1, h2, h3, decide_true, decide_false, Bool.and_true, Bool.and_false, Bool.false_and] at *
        go_enter Try.func10, Try.ntmps10
        go_wp2
        go_ret
        exact ⟨rfl, (Below.refl _ _).alloc (Nat.le_refl _) _⟩
    · have k1 : (rn : Int) ≤ 100 := by omega
      have k2 : ¬ (on_ : Int) ≤ 100 := by omega
      simp only [h1, h2, decide_true, decide_false, Bool.and_false, Bool.false_and] at *
      go_enter Try.func10, Try.ntmps10
      go_wp2
      go_ret
      exact ⟨rfl, (Below.refl _ _).alloc (Nat.le_refl _) _⟩
  · have k1 : ¬ (rn : Int) ≤ 100 := by omega
    simp only [h1, decide_false, Bool.false_and] at *
    go_enter Try.func10, Try.ntmps10
    go_wp2
    go_ret
    exact ⟨rfl, (Below.refl _ _).alloc (Nat.le_refl _) _⟩

/-- How many lists few leaves. -/
def fewN : Nat → List (List UInt8) → Nat
  | 0, _ => 0
  | _, [] => 0
  | b + 1, s :: l => if s.length ≤ 100 then fewN b l + 1 else 0
theorem fewN_zero (l : List (List UInt8)) : fewN 0 l = 0 := by cases l <;> rfl
theorem fewN_nil (b : Nat) : fewN b [] = 0 := by cases b <;> rfl
theorem fewN_le (b : Nat) : ∀ l : List (List UInt8), fewN b l ≤ b ∧ fewN b l ≤ l.length := by
  induction b with
  | zero => intro l; rw [fewN_zero]; exact ⟨Nat.le_refl _, Nat.zero_le _⟩
  | succ b ih =>
    intro l
    cases l with
    | nil => rw [fewN_nil]; exact ⟨Nat.zero_le _, Nat.zero_le _⟩
    | cons s l =>
      have := ih l
      unfold fewN
      split
      · simp only [List.length_cons]; omega
      · exact ⟨Nat.zero_le _, Nat.zero_le _⟩
theorem fewN_len (b : Nat) : ∀ (l : List (List UInt8)), ∀ s ∈ l.take (fewN b l), s.length ≤ 100 := by
  induction b with
  | zero => intro l s hs; rw [fewN_zero] at hs; simp at hs
  | succ b ih =>
    intro l s hs
    cases l with
    | nil => simp at hs
    | cons t l =>
      unfold fewN at hs
      split at hs
      · rename_i ht
        rw [List.take_succ_cons] at hs
        rcases List.mem_cons.1 hs with h | h
        · rw [h]; exact ht
        · exact ih l s h
      · simp at hs
theorem fewN_at {b a : Nat} {l : List (List UInt8)} {s : List UInt8} (hb : a < b) (hs : l[a]? = some s) : fewN (b - a) (l.drop a) = if s.length ≤ 100 then fewN (b - (a + 1)) (l.drop (a + 1)) + 1 else 0 := by
  have hl := (List.getElem?_eq_some_iff.1 hs)
  obtain ⟨hl, he⟩ := hl
  rw [List.drop_eq_getElem_cons hl, he, show b - a = b - (a + 1) + 1 by omega]
  rfl
theorem SecsAt.few {w : World} {B : Nat} {A : Option Addr} {L : List Sc} {l : List (List UInt8)} (h : SecsAt w B A L l) (k : Nat) : SecsAt w B A (L.take k) (l.take k) := by
  have hz : secsV (L.take k) (l.take k) = (secsV L l).take k := by
    unfold secsV
    rw [List.zip_eq_zipWith, List.zip_eq_zipWith, ← List.take_zipWith, List.map_take]
  refine ⟨by rw [List.length_take, List.length_take, h.len], ?_, fun i s b h1 h2 => ?_⟩
  · rw [hz]
    rcases h.rd with h0 | ⟨b, o, h1, h2, h3⟩
    · exact .inl (by rw [h0]; simp)
    · refine .inr ⟨b, o, h1, h2, fun j u hu => h3 j u ?_⟩
      rw [List.getElem?_take] at hu
      split at hu
      · exact hu
      · cases hu
  · rw [List.getElem?_take] at h1 h2
    split at h1
    · rename_i hik
      rw [if_pos hik] at h2
      exact h.each i s b h1 h2
    · cases h1
set_option maxHeartbeats 1600000 in
theorem few_any (l : List (List UInt8)) (A : Option Addr) (n c : Nat) (L : List Sc) (w : World) (hl : l.length = n) (hs : SecsAt w w.heap.size A L l) (hc : n ≤ c) :
    Calls Try.prog 20 #[.slice A n c] w fun e w' => e = .returned (.slice A (fewN 50 l) c) ∧ Below w.heap.size w w' := by
  have HS := Lib.hid hs
  have HL := Lib.hid hl
  have HX : Hid (∀ k : Nat, k < n → ∃ s b o : _, l[k]? = some s ∧ A = some ⟨b, o, none⟩ ∧ b < w.heap.size) := Lib.hid (fun k hk => by
    obtain ⟨b, o, h1, h2⟩ := HS.out.first (by omega)
    exact ⟨l[k]'(by rw [HL.out]; exact hk), b, o, List.getElem?_eq_getElem _, h1, h2⟩)
  clear hs hl
  go_enter Try.func20, Try.ntmps20
  go_wp2
  go_loopw [6] (fun k wr => ∃ a : Nat, k = .int .i64 (a : Int) ∧ a ≤ n ∧ Hid (fewN 50 l = a + fewN (50 - a) (l.drop a)) ∧ Hid (Below w.heap.size w wr)) (fun k _ => n - (intOf k).toNat)
  case atStart => exact ⟨0, rfl, Nat.zero_le _, Lib.hid (by simp), Lib.hid (Below.refl _ _)⟩
  case round =>
    obtain ⟨a, rfl, ha, HF, HB⟩ := hrel
    by_cases hlt : a < n
    · obtain ⟨s, b, o, hsl, hA, hb⟩ := HX.out a hlt
      subst hA
      have hlti : (a : Int) < (n : Int) := by omega
      have ha0 : (0 : Int) ≤ (a : Int) := by omega
      by_cases h50 : a < 50
      · obtain ⟨S, -, hcell, -, -⟩ := (HS.out.below HB.out).get hsl
        have hg : decide ((a : Int) ≥ 50) = false := by simp; omega
        have hst := fewN_at (b := 50) h50 hsl
        by_cases h100 : s.length ≤ 100
        · rw [if_pos h100] at hst
          have HF2 : Hid (fewN 50 l = a + 1 + fewN (50 - (a + 1)) (l.drop (a + 1))) := Lib.hid (by rw [HF.out, hst]; omega)
          have h1 : ¬ 50 ≤ (a : Int) := by omega
          have h2 : ¬ 100 < (s.length : Int) := by omega
          clear hst hsl
          go_wp2
          go_roundw
          case rel => exact ⟨a + 1, by go_num, hlt, HF2, HB⟩
          case measure => simp [intOf]; omega
        · rw [if_neg h100] at hst
          have HF2 : Hid (a = fewN 50 l) := Lib.hid (by rw [HF.out, hst]; omega)
          have h1 : ¬ 50 ≤ (a : Int) := by omega
          have h2 : 100 < (s.length : Int) := by omega
          have h3 : (a : Int) ≤ (c : Int) := by omega
          clear hst hsl
          go_wp2
          go_ret
          rw [← HF2.out]
          exact ⟨by simp, HB.out⟩
      · have HF2 : Hid (a = fewN 50 l) := Lib.hid (by rw [HF.out, show 50 - a = 0 by omega, fewN_zero]; omega)
        have h1 : 50 ≤ (a : Int) := by omega
        have h3 : (a : Int) ≤ (c : Int) := by omega
        clear hsl
        go_wp2
        go_ret
        rw [← HF2.out]
        exact ⟨by simp, HB.out⟩
    · obtain rfl : n = a := by omega
      have HF2 : Hid (n = fewN 50 l) := Lib.hid (by rw [HF.out, List.drop_of_length_le (by rw [HL.out]; exact Nat.le_refl _), fewN_nil]; omega)
      go_wp2
      go_ret
      rw [← HF2.out]
      exact ⟨rfl, HB.out⟩
end Go.Proofs.Ytaflpigpeckhoaa.Meta
