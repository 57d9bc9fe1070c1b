/-
  The hash of a text as the document has it; the hash from 1 on; the document's examples.
-/
import Derived.Test.YtlopndnjkphdnaaSpinW3
namespace Go.Proofs.Ytlopndnjkphdnaa.Spin
open Go.RowKit

set_option maxRecDepth 100000 in
set_option maxHeartbeats 800000 in
theorem rmore_any (x y : Int) (s : ByteArray) (w : World) (hs : s.size ≤ 9223372036854775807) :
    Calls Try.prog 47 #[.agg #[.int .i64 x, .int .i64 y], .string s] w fun e w' => e = .returned (.agg #[.int .i64 (mX (res x) (res y) s.data.toList), .int .i64 (mY (res x) (res y) s.data.toList)]) ∧ Below w.heap.size w w' := by
  go_enter Try.func47, Try.ntmps47
  go_wp2_with fail
  refine (norm_any x y _).mono ?_
  rintro e w1 ⟨rfl, hb⟩
  have h1 := (start_hd w x y (.int .i64 0) (.int .i64 0) 56).below hb
  have hc0 := h1.c0
  have hc1 := h1.c1
  have hf0 := h1.f0
  have hf1 := h1.f1
  clear hb
  go_wp2_with fail
  clear hc0 hc1 hf0 hf1
  go_loopw [5] (fun i wr => ∃ k : Nat, k ≤ s.size ∧ i = .int .i64 k ∧ Hd w wr w.heap.size (w.heap.size + 1) (mX (res x) (res y) (s.data.toList.take k)) (mY (res x) (res y) (s.data.toList.take k))) (fun i _ => s.size - (intOf i).toNat)
  case atStart => exact ⟨0, Nat.zero_le _, rfl, h1.set (Nat.le_refl _)⟩
  case round =>
    clear h1
    obtain ⟨k, hk, rfl, h⟩ := hrel
    by_cases hlt : k < s.size
    · have HX := Lib.hid (mX_next (res x) (res y) s k hlt)
      have HY := Lib.hid (mY_next (res x) (res y) s k hlt)
      obtain ⟨X, hX⟩ : ∃ X, X = mX (res x) (res y) (s.data.toList.take k) := ⟨_, rfl⟩
      obtain ⟨Y, hY⟩ : ∃ Y, Y = mY (res x) (res y) (s.data.toList.take k) := ⟨_, rfl⟩
      rw [← hX, ← hY] at HX HY h
      clear hX hY
      have hc0 := h.c0
      have hc1 := h.c1
      have hk0 : (0 : Int) ≤ (k : Int) := Int.natCast_nonneg _
      have hk1 : (k : Int) < (s.size : Int) := by omega
      have hch := s[k].toNat_lt
      have hw0 : wrap64 (s[k].toNat : Int) = (s[k].toNat : Int) := IntWalk.wrap64_in _ ⟨by omega, by omega⟩
      have hw1 : wrap64 ((s[k].toNat : Int) + 1) = (s[k].toNat : Int) + 1 := IntWalk.wrap64_in _ ⟨by omega, by omega⟩
      have hw7 : (s[k].toNat : Int).tmod 7 = (s[k].toNat : Int) % 7 := Int.tmod_eq_emod_of_nonneg (by omega)
      have HW := Lib.hid (And.intro hw0 (And.intro hw1 hw7))
      clear hw0 hw1 hw7 hch
      go_wp2_with fail
      refine (rturn_any _ _ _ _ _).mono ?_
      rintro e w2 ⟨rfl, hb2⟩
      have h2 := h.below hb2
      clear hc0 hc1 hb2
      have hc0 := h2.c0
      have hc1 := h2.c1
      have hf0 := h2.f0
      have hf1 := h2.f1
      go_wp2_with fail
      have h3 := h2.set (X' := tX X Y 3 2) (Y' := tY X Y 3 2) (Nat.le_refl _)
      clear hc0 hc1 hf0 hf1 h2
      generalize (w2.setCell ⟨w.heap.size, 0, none⟩ (Value.int IntKind.i64 (tX X Y 3 2))).setCell ⟨w.heap.size, 1, none⟩ (Value.int IntKind.i64 (tY X Y 3 2)) = w3 at h3 ⊢
      have hc0 := h3.c0
      have hc1 := h3.c1
      go_region_with (first
        | (go_at_call 53; refine (rpush_any _ _ _ _ _).mono ?_; rintro e w4 ⟨rfl, hb4⟩; have h4 := h3.drew.below hb4; have k0 := h4.c0; have k1 := h4.c1; have l0 := h4.f0; have l1 := h4.f1))
      all_goals
        clear k0 k1 l0 l1 hc0 hc1
        go_wp2_with fail
        go_roundw
        case rel => exact ⟨k + 1, by omega, by go_num, by rw [HX.out, HY.out, HW.out.1, HW.out.2.1, HW.out.2.2]; exact h4.set (Nat.le_refl _)⟩
        case measure => simp [intOf]; omega
    · have hk' : k = s.size := by omega
      subst hk'
      have ht : s.data.toList.take s.size = s.data.toList := List.take_of_length_le (by simp)
      rw [ht] at h
      clear ht hlt
      have hc0 := h.c0
      have hc1 := h.c1
      obtain ⟨u0, hr0⟩ := h.r0
      obtain ⟨u1, hr1⟩ := h.r1
      have hg0 := h.g0
      have hg1 := h.g1
      go_wp2_with fail
      exact bodyPost_ret (v := .agg #[.int .i64 (mX (res x) (res y) s.data.toList), .int .i64 (mY (res x) (res y) s.data.toList)]) (by simp [results, Try.results47, go_sem, hr0, hr1]) rfl ⟨rfl, (h.all.setCell (by simp) _).setCell (by simp) _⟩

/-- The hash of a text, from 1 on. -/
def ofX (l : List UInt8) : Int := mX 1 0 l
def ofY (l : List UInt8) : Int := mY 1 0 l

theorem of_any (s : ByteArray) (w : World) (hs : s.size ≤ 9223372036854775807) :
    Calls Try.prog 45 #[.string s] w fun e w' => e = .returned (.agg #[.int .i64 (ofX s.data.toList), .int .i64 (ofY s.data.toList)]) ∧ Below w.heap.size w w' := by
  go_enter Try.func45, Try.ntmps45
  go_wp2_with ((go_at_call 50; refine (more_any 1 0 s _ hs).mono ?_; rintro e w1 ⟨rfl, hb⟩; obtain ⟨hc, hf⟩ := bcell hb))
  exact bodyPost_ret (v := .agg #[.int .i64 (ofX s.data.toList), .int .i64 (ofY s.data.toList)]) (by simp [results, Try.results45, go_sem, hc]; exact ⟨rfl, rfl⟩) rfl ⟨rfl, ((((Below.refl _ _).alloc (Nat.le_refl _) _).trans (hb.mono (by simp))).setCell (by simp) _).setCell (by simp) _⟩
theorem rof_any (s : ByteArray) (w : World) (hs : s.size ≤ 9223372036854775807) :
    Calls Try.prog 31 #[.string s] w fun e w' => e = .returned (.agg #[.int .i64 (ofX s.data.toList), .int .i64 (ofY s.data.toList)]) ∧ Below w.heap.size w w' := by
  go_enter Try.func31, Try.ntmps31
  go_wp2_with ((go_at_call 47; refine (rmore_any 1 0 s _ hs).mono ?_; rintro e w1 ⟨rfl, hb⟩; obtain ⟨hc, hf⟩ := bcell hb))
  exact bodyPost_ret (v := .agg #[.int .i64 (ofX s.data.toList), .int .i64 (ofY s.data.toList)]) (by simp [results, Try.results31, go_sem, hc]; exact ⟨rfl, rfl⟩) rfl ⟨rfl, ((((Below.refl _ _).alloc (Nat.le_refl _) _).trans (hb.mono (by simp))).setCell (by simp) _).setCell (by simp) _⟩
end Go.Proofs.Ytlopndnjkphdnaa.Spin
