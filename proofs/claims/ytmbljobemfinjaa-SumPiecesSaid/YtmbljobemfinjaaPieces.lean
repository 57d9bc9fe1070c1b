/-
  SumPieces: whatever the bytes, and however many each piece has, the sum of the pieces, one behind the other, is that of all.
-/
import Derived.Test.YtmbljobemfinjaaF
namespace Go.Proofs.Ytmbljobemfinjaa
open Go.ChangeShapes Go.WideShapes Go.ChangeAt Go.RowKit

set_option maxRecDepth 100000 in
set_option maxHeartbeats 400000 in
theorem pieces_walk (l : List UInt8) (A : Option Addr) (n c : Nat) (q : Int) (w : World) (hn : l.length = n) (hr : Rd w w.heap.size A (bytesV l)) (hc : n ≤ c) (hm : c ≤ 9223372036854775807) (hq0 : 0 ≤ q) (hq1 : q ≤ 255) :
    Calls Try.prog 9 #[.slice A n c, .int .u8 q] w fun e w' => e = .returned (.bool true) ∧ Below w.heap.size w w' := by
  obtain ⟨t, rfl⟩ := Int.eq_ofNat_of_zero_le hq0
  have Hf := Lib.hid (fun w => few_any A n c w hc hm)
  have Hl := Lib.hid (few_len l n hn)
  have hr5 := hr.take 50000
  rw [← bytesV_take] at hr5
  obtain ⟨k, hk⟩ : ∃ k, k = l.take 50000 := ⟨_, rfl⟩
  rw [← hk] at Hl hr5
  clear hn hr hk
  have hk5 : min n 50000 ≤ 50000 := Nat.min_le_right _ _
  have hkc : min n 50000 ≤ c := by omega
  generalize min n 50000 = m at *
  clear hq0 hc
  go_enter Try.func9, Try.ntmps9
  go_wp2_with (first
    | (go_at_call 11; refine (shown_any _).mono ?_; rintro e w1 ⟨rfl, hb⟩; have hr6 := hr5.below hb)
    | (go_at_call 10; refine (Hf.out _).mono ?_; rintro e w' ⟨rfl, rfl⟩))
  clear hr5 Hf hm
  go_loop [7, 9] (fun x i => ∃ j : Nat, i = .int .i64 j ∧ j ≤ 50000 + 256 ∧ x = .int .u32 (sumOf (k.take j) : Nat)) (fun _ i => 50000 - (intOf i).toNat)
  case atStart => exact ⟨0, rfl, by omega, by rw [List.take_zero, show sumOf [] = 1 from by decide]; rfl⟩
  case round =>
    obtain ⟨j, rfl, hj, rfl⟩ := hrel
    have hlt := sumOf_lt (k.take j)
    by_cases hjm : j < m
    · have hjn : j ≤ 50000 := by omega
      have h1 : ¬ ((m : Int) ≤ (j : Int)) := by omega
      have hpiece : ∀ q : Nat, Rd w1 w.heap.size (A.map (·.add j)) (bytesV ((k.drop j).take q)) := fun q => by
        have h := hr6.drop (k := j) (c := c) (by rw [length_bytesV, Hl.out]; omega) (by rw [length_bytesV, Hl.out]; omega)
        rw [if_neg (by omega)] at h
        have h' := h.take q
        rw [← bytesV_drop, ← bytesV_take] at h'
        exact h'
      have hsum : ∀ q : Nat, sumMore (sumOf (k.take j)) ((k.drop j).take q) = sumOf (k.take (j + q)) := fun q => by
        rw [← sumOf_append, List.take_add]
      have hlen : ∀ q : Nat, j + q ≤ m → ((k.drop j).take q).length = q := fun q hq => by rw [List.length_take, List.length_drop, Hl.out]; omega
      have hne : ¬ (c = j) := by omega
      have hall : ∀ q : Nat, m ≤ q → k.take q = k := fun q hq => List.take_of_length_le (by rw [Hl.out]; exact hq)
      have Hp := Lib.hid hpiece
      have Hs := Lib.hid hsum
      have Hlen := Lib.hid hlen
      have Hall := Lib.hid hall
      clear hpiece hsum hlen hall
      by_cases hjt : j + (t + 1) ≤ m
      · have h2 : (j : Int) + ((t : Int) + 1) ≤ (m : Int) := by omega
        have h3 : (m : Int) ≤ (c : Int) := by omega
        go_wp2_with (go_at_call 14; refine (more_any ((k.drop j).take (t + 1)) _ (t + 1) (c - j) w.heap.size _ _ hlt (Hlen.out _ hjt) (Hp.out _) (by omega)).mono ?_; rintro e w' ⟨rfl, rfl⟩; rw [Hs.out])
        go_round
        case rel => exact ⟨j + (t + 1), by go_num, by omega, rfl⟩
        case measure => simp [intOf]; omega
      · have h2 : ¬ ((j : Int) + ((t : Int) + 1) ≤ (m : Int)) := by omega
        have h3 : (m : Int) ≤ (c : Int) := by omega
        have h4 : (j : Int) ≤ (m : Int) := by omega
        go_wp2_with (go_at_call 14; refine (more_any ((k.drop j).take (m - j)) _ (m - j) (c - j) w.heap.size _ _ hlt (Hlen.out _ (by omega)) (Hp.out _) (by omega)).mono ?_; rintro e w' ⟨rfl, rfl⟩; rw [Hs.out])
        go_round
        case rel => exact ⟨j + (t + 1), by go_num, by omega, by rw [Hall.out (j + (m - j)) (by omega), Hall.out _ (by omega)]⟩
        case measure => simp [intOf]; omega
    · have hall : k.take j = k := List.take_of_length_le (by rw [Hl.out]; omega)
      rw [hall]
      go_wp2_with (go_at_call 12; refine (of_any k A m c w.heap.size _ Hl.out hr6 (by omega)).mono ?_; rintro e w' ⟨rfl, rfl⟩)
      go_ret
      exact ⟨rfl, hb⟩

theorem pieces_contract (H : Type) (enc : TypeId × Value → H) (W : World) (base : Nat) (args : Array Value) (ds gs : List (DataW H)) (before : List MemPlace)
    (hval : ∀ (j : Nat) t v, Try.f9.params[j]? = some t → args[j]? = some v → Value.okWide Try.prog W .any base t v)
    (hW : DataW.Whole enc Try.prog Try.f9.params.toList Rows.sumPiecesSpec.vars false W args.toList ds gs before) :
    Calls Try.prog 9 args W fun e W' => ∃ v, e = .returned v ∧ Rows.sumPiecesSpec.post enc Try.prog Try.f9 false true false false W args v W' := by
  have hW' := hW
  have hlt : ∀ x ∈ before, x.block < W.heap.size := fun x hx => hW.lt x hx
  obtain ⟨p, q, hA0, hV, rfl, _, _⟩ := hW
  have hA : DataW.TrodAll enc Try.prog W 0 (fun _ => true) true Try.f9.params.toList args.toList ds p := hA0
  rw [Try.params9] at hA hval
  obtain ⟨v0, vs0, d0, ds0, p0, q0, hargs, rfl, rfl, h0, r0⟩ := trodAll_cons hA
  obtain ⟨v1, vs1, d1, ds1, p1, q1, rfl, rfl, rfl, h1, r1⟩ := trodAll_cons r0
  obtain ⟨rfl, rfl, rfl⟩ := trodAll_nil r1
  obtain rfl : args = #[v0, v1] := by cases args; simp_all
  obtain ⟨rfl, rfl⟩ := trodVars_none hV
  clear hA0
  obtain ⟨A0, n0, c0, l0, rfl, hn0, hc0, hm0, hr0⟩ := open_bytesL Try.underlying23 Try.underlying5 cells5 (hval 0 23 v0 rfl rfl) h0 (fun x hx => hlt x (by simp [hx]))
  unfold maxLen at hm0
  obtain ⟨a1, rfl, rfl, rfl, wa1⟩ := open_int Try.underlying5 (hval 1 5 v1 rfl rfl) h1
  have bd1 := bounds_u8 wa1
  refine (pieces_walk l0 A0 n0 c0 a1 W hn0 hr0 hc0 hm0 bd1.1 bd1.2).mono fun e W' ⟨he, hb⟩ => ?_
  subst he
  exact ⟨_, rfl, law_post laid (by kernel_rfl) Try.underlying4 (by rw [Try.params9]; decide +kernel) rfl hW' ⟨rfl, rfl, rfl⟩ hb⟩

set_option maxRecDepth 100000 in
theorem pieces_lifted (os : Os) (started : os.Started) (H : Type) (enc : TypeId × Value → H) :
    ReturnsInHanded {} Try.checked os 9 .any (Rows.sumPiecesSpec.pre6 enc Try.prog Try.f9 Rows.sumPiecesRow.domain false) (Rows.sumPiecesSpec.post enc Try.prog Try.f9 false true false false) := by
  refine returnsInHanded_of_change (C := Try.checked) own started (by kernel_rfl) Try.func9
    (ChangeSpec.witness6 (enc := enc) (C := Try.checked) false ⟨#[], #[.slice none 0 0, .int .u8 0], []⟩ 8 (by kernel_rfl) (by kernel_rfl) (by kernel_rfl) (by kernel_rfl)) ?_
  intro W base args ds gs before hval hW _ _
  exact pieces_contract H enc W base args ds gs before hval hW

/-- SumPieces is true for every input. -/
theorem pieces_holds : Rows.SumPiecesSaid :=
  OpenClaim.holds_of_wide 9 Try.f9 rfl rfl rfl rfl rfl rfl rfl ⟨rfl, rfl, rfl, rfl, rfl⟩ rfl rfl rfl rfl rfl (by kernel_rfl) Try.func9 (by kernel_rfl)
    (of_decide_eq_true (by kernel_rfl)) (by unfold Func.isWrapper; first | (rw [if_pos (by decide +kernel)]; kernel_rfl) | (rw [if_neg (by decide +kernel)]; exact ⟨rfl, rfl⟩))
    (fun os started H enc _ => pieces_lifted os started H enc)
end Go.Proofs.Ytmbljobemfinjaa
