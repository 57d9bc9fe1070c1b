/-
  SumZeros: whatever the sum, and however many bytes 0 stand behind others, the lower part stays, and the higher one goes up by it, as often.
-/
import Derived.Test.YtmbljobemfinjaaF
namespace Go.Proofs.Ytmbljobemfinjaa
open Go.ChangeShapes Go.WideShapes Go.ChangeAt Go.RowKit

theorem rd_zeros (w : World) (g n : Nat) (h : Bk w g 5 (bytesV (List.replicate n 0))) : Rd w w.heap.size (some ⟨g, 0, none⟩) (bytesV (List.replicate n 0)) :=
  .inr ⟨g, 0, rfl, h.lt, fun j u hu => by rw [h.cell, Nat.zero_add]; exact hu⟩
set_option maxHeartbeats 400000 in
theorem zeros_walk (n s : Int) (w : World) (hn0 : 0 ≤ n) (hn1 : n ≤ 65535) (hs0 : 0 ≤ s) (hs1 : s ≤ 4294967295) :
    Calls Try.prog 8 #[.int .u16 n, .int .u32 s] w fun e w' => e = .returned (.bool true) ∧ Below w.heap.size w w' := by
  obtain ⟨t, rfl⟩ := Int.eq_ofNat_of_zero_le hs0
  have ht : t < 4294967296 := by omega
  obtain ⟨k, hk⟩ : ∃ k : Nat, n % 2001 = (k : Int) := Int.eq_ofNat_of_zero_le (by omega)
  have hk1 : k ≤ 2000 := by omega
  have hmk := fun u => make_bytes k (by omega) u
  go_enter Try.func8, Try.ntmps8
  go_wp2_with (first
    | (go_at_call 11; refine (shown_any _).mono ?_; rintro e w1 ⟨rfl, hb⟩))
  have hbk := (rd_zeros _ _ _ (Bk.new w1 5 (bytesV (List.replicate k 0)))).more (Nat.le_refl _)
  refine (more_any (List.replicate k 0) _ k k _ t _ ht List.length_replicate hbk (by omega)).mono ?_
  rintro e w' ⟨rfl, rfl⟩
  have hz := sum_zeros t k
  have hand : bits .and .u32 (t : Int) 65535 = ((t % 65536 : Nat) : Int) := by
    have := u32_and_nat t 65535 ht (by omega)
    rw [Nat.and_two_pow_sub_one_eq_mod t 16] at this
    exact this
  have hX := sumMore_lt t (List.replicate k 0)
  have hand2 : bits .and .u32 ((sumMore t (List.replicate k 0) : Nat) : Int) 65535 = ((t % 65536 % 65521 : Nat) : Int) := by
    have := u32_and_nat (sumMore t (List.replicate k 0)) 65535 hX (by omega)
    rw [Nat.and_two_pow_sub_one_eq_mod _ 16] at this
    refine Eq.trans this ?_
    rw [hz]; omega
  have hhi : sumMore t (List.replicate k 0) / 65536 = (t / 65536 % 65521 + k * (t % 65536 % 65521) % 65521) % 65521 := by rw [hz]; omega
  have hB := hb.trans (((Below.refl _ w1).alloc (Nat.le_refl _) (.cells (bytesV (List.replicate k 0)).toArray 5)).mono hb.size)
  generalize sumMore t (List.replicate k 0) = X at *
  have h1 : (t : Int) % 65536 % 65521 = ((t % 65536 % 65521 : Nat) : Int) := rfl
  obtain ⟨lo, hlo⟩ : ∃ lo : Nat, lo = t % 65536 % 65521 := ⟨_, rfl⟩
  obtain ⟨hi, hhi2⟩ : ∃ hi : Nat, hi = t / 65536 % 65521 := ⟨_, rfl⟩
  have hlob : lo < 65521 := by omega
  have hhib : hi < 65521 := by omega
  have hp0 : (0 : Int) ≤ (k : Int) * (lo : Int) := by have := Nat.zero_le (k * lo); omega
  have hp1 : (k : Int) * (lo : Int) ≤ 131040000 := by have : k * lo ≤ 2000 * 65520 := Nat.mul_le_mul hk1 (by omega); omega
  rw [← hlo] at hand2 h1 hhi
  rw [← hhi2] at hhi
  have hx2 : (X : Int) / 65536 = ((hi : Int) + (k : Int) * (lo : Int) % 65521) % 65521 := by omega
  have ht2 : (t : Int) / 65536 % 65521 = (hi : Int) := by omega
  clear hz hmk hbk hlo hhi2 hhi hk
  go_wp2
  go_ret
  exact ⟨rfl, hB⟩

theorem zeros_contract (H : Type) (enc : TypeId × Value → H) (W : World) (base : Nat) (args : Array Value) (ds gs : List (DataW H)) (before : List MemPlace)
    (hval : ∀ (j : Nat) t v, Try.f8.params[j]? = some t → args[j]? = some v → Value.okWide Try.prog W .any base t v)
    (hW : DataW.Whole enc Try.prog Try.f8.params.toList Rows.sumZerosSpec.vars false W args.toList ds gs before) :
    Calls Try.prog 8 args W fun e W' => ∃ v, e = .returned v ∧ Rows.sumZerosSpec.post enc Try.prog Try.f8 false true false false W args v W' := by
  have hW' := hW
  have hlt : ∀ x ∈ before, x.block < W.heap.size := fun x hx => hW.lt x hx
  obtain ⟨p, q, hA0, hV, rfl, _, _⟩ := hW
  have hA : DataW.TrodAll enc Try.prog W 0 (fun _ => true) true Try.f8.params.toList args.toList ds p := hA0
  rw [Try.params8] at hA hval
  obtain ⟨v0, vs0, d0, ds0, p0, q0, hargs, rfl, rfl, h0, r0⟩ := trodAll_cons hA
  obtain ⟨v1, vs1, d1, ds1, p1, q1, rfl, rfl, rfl, h1, r1⟩ := trodAll_cons r0
  obtain ⟨rfl, rfl, rfl⟩ := trodAll_nil r1
  obtain rfl : args = #[v0, v1] := by cases args; simp_all
  obtain ⟨rfl, rfl⟩ := trodVars_none hV
  clear hA0
  obtain ⟨a0, rfl, rfl, rfl, wa0⟩ := open_int Try.underlying36 (hval 0 36 v0 rfl rfl) h0
  have bd0 := bounds_u16 wa0
  obtain ⟨a1, rfl, rfl, rfl, wa1⟩ := open_int Try.underlying22 (hval 1 22 v1 rfl rfl) h1
  have bd1 := bounds_u32 wa1
  refine (zeros_walk a0 a1 W bd0.1 bd0.2 bd1.1 bd1.2).mono fun e W' ⟨he, hb⟩ => ?_
  subst he
  exact ⟨_, rfl, law_post laid (by kernel_rfl) Try.underlying4 (by rw [Try.params8]; decide +kernel) rfl hW' ⟨rfl, rfl, rfl⟩ hb⟩

set_option maxRecDepth 100000 in
theorem zeros_lifted (os : Os) (started : os.Started) (H : Type) (enc : TypeId × Value → H) :
    ReturnsInHanded {} Try.checked os 8 .any (Rows.sumZerosSpec.pre6 enc Try.prog Try.f8 Rows.sumZerosRow.domain false) (Rows.sumZerosSpec.post enc Try.prog Try.f8 false true false false) := by
  refine returnsInHanded_of_change (C := Try.checked) own started (by kernel_rfl) Try.func8
    (ChangeSpec.witness6 (enc := enc) (C := Try.checked) false ⟨#[], #[.int .u16 0, .int .u32 0], []⟩ 8 (by kernel_rfl) (by kernel_rfl) (by kernel_rfl) (by kernel_rfl)) ?_
  intro W base args ds gs before hval hW _ _
  exact zeros_contract H enc W base args ds gs before hval hW

/-- SumZeros is true for every input. -/
theorem zeros_holds : Rows.SumZerosSaid :=
  OpenClaim.holds_of_wide 8 Try.f8 rfl rfl rfl rfl rfl rfl rfl ⟨rfl, rfl, rfl, rfl, rfl⟩ rfl rfl rfl rfl rfl (by kernel_rfl) Try.func8 (by kernel_rfl)
    (of_decide_eq_true (by kernel_rfl)) (by unfold Func.isWrapper; first | (rw [if_pos (by decide +kernel)]; kernel_rfl) | (rw [if_neg (by decide +kernel)]; exact ⟨rfl, rfl⟩))
    (fun os started H enc _ => zeros_lifted os started H enc)
end Go.Proofs.Ytmbljobemfinjaa
