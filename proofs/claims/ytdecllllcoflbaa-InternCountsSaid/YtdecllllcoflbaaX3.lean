/-
  Package intern's Find and the document's.
-/
import Derived.Test.YtdecllllcoflbaaX2
namespace Go.Proofs.Ytdecllllcoflbaa.Intern
open Go.RowKit

set_option maxHeartbeats 800000 in
theorem find_any (l : List Rw) (A : Option Addr) (n c a : Nat) (w : World) (hn : l.length = n) (hr : Rd w w.heap.size A (rowsV l)) (hm : n ≤ 9223372036854775807) :
    Calls Try.prog 11 #[.slice A n c, .int .u16 (a : Int)] w fun e w' => e = .returned (fndV (fndP l a)) ∧ Below w.heap.size w w' := by
  have Hn := Lib.hid hn
  have Hr := Lib.hid hr
  clear hn hr
  by_cases hR : Right l
  · have hf := fndP_yes hR a
    have hb := rightB_yes hR
    have HF := Lib.hid hf
    have hpl : l.findIdx? (hasL a) = fnd l a := rfl
    clear hR hf
    cases hfa : fnd l a with
    | none =>
      rw [hfa] at hpl
      have HP := Lib.hid hpl
      have HA := Lib.hid hfa
      clear hpl hfa
      go_enter Try.func11, Try.ntmps11
      go_wp2_with (first
        | (go_at_call 17; (with_reducible refine (right_all l A n c _ Hn.out Hr.out).mono ?_); rintro e w1 ⟨he, hb1⟩; obtain rfl := he; rw [hb]; have HB1 := Lib.hid hb1; clear hb1)
        | (go_at_call 26; (with_reducible refine (has_any a _).mono ?_); rintro e w3 ⟨he, hw3⟩; obtain rfl := he; have hb3 : Below w1.heap.size w1 w3 := (by subst hw3; exact alloc_below _ _); have k0 : w3.cell? ⟨w1.heap.size, 0, none⟩ = some (.int .u16 (a : Int)) := (by subst hw3; exact (Bk.new w1 24 [.int .u16 (a : Int)]).cell 0); have ks : w1.heap.size < w3.heap.size := (by subst hw3; simp); clear hw3; have HB3 := Lib.hid (HB1.out.trans (hb3.mono HB1.out.size)); clear hb3)
        | (go_at_call 25; (with_reducible refine (index_has l _ n c _ a _ k0 ks Hn.out ((Hr.out.below HB3.out).more HB3.out.size) hm).mono ?_); rintro e w4 ⟨he, hb4⟩; obtain rfl := he; have HB4 := Lib.hid (HB3.out.trans (hb4.mono HB3.out.size)); clear hb4; rw [HP.out]; simp only [placeI]))
      go_ret2
      exact ⟨by rw [HF.out, HA.out]; rfl, HB4.out⟩
    | some i =>
      rw [hfa] at hpl
      have HP := Lib.hid hpl
      have HA := Lib.hid hfa
      clear hpl hfa
      go_enter Try.func11, Try.ntmps11
      go_wp2_with (first
        | (go_at_call 17; (with_reducible refine (right_all l A n c _ Hn.out Hr.out).mono ?_); rintro e w1 ⟨he, hb1⟩; obtain rfl := he; rw [hb]; have HB1 := Lib.hid hb1; clear hb1)
        | (go_at_call 26; (with_reducible refine (has_any a _).mono ?_); rintro e w3 ⟨he, hw3⟩; obtain rfl := he; have hb3 : Below w1.heap.size w1 w3 := (by subst hw3; exact alloc_below _ _); have k0 : w3.cell? ⟨w1.heap.size, 0, none⟩ = some (.int .u16 (a : Int)) := (by subst hw3; exact (Bk.new w1 24 [.int .u16 (a : Int)]).cell 0); have ks : w1.heap.size < w3.heap.size := (by subst hw3; simp); clear hw3; have HB3 := Lib.hid (HB1.out.trans (hb3.mono HB1.out.size)); clear hb3)
        | (go_at_call 25; (with_reducible refine (index_has l _ n c _ a _ k0 ks Hn.out ((Hr.out.below HB3.out).more HB3.out.size) hm).mono ?_); rintro e w4 ⟨he, hb4⟩; obtain rfl := he; have HB4 := Lib.hid (HB3.out.trans (hb4.mono HB3.out.size)); clear hb4; rw [HP.out]; simp only [placeI]))
      go_ret2
      exact ⟨by rw [HF.out, HA.out]; rfl, HB4.out⟩
  · have hb := rightB_no hR
    have HF := Lib.hid (fndP_no hR a)
    clear hR
    go_enter Try.func11, Try.ntmps11
    go_wp2_with (go_at_call 17; (with_reducible refine (right_all l A n c _ Hn.out Hr.out).mono ?_); rintro e w1 ⟨he, hb1⟩; obtain rfl := he; rw [hb]; have HB1 := Lib.hid hb1; clear hb1)
    go_ret2
    exact ⟨by rw [HF.out]; rfl, HB1.out⟩

set_option maxHeartbeats 1600000 in
theorem rfind_any (l : List Rw) (A : Option Addr) (n c a B : Nat) (w : World) (hn : l.length = n) (hr : Rd w B A (rowsV l)) (hm : n ≤ 9223372036854775807) :
    Calls Try.prog 12 #[.slice A n c, .int .u16 (a : Int)] w fun e w' => e = .returned (fndV (fndP l a)) ∧ ∃ q, w' = w.drewN q := by
  by_cases hR : Right l
  · have h16 : n = 16 := by rw [← hn]; exact hR.len
    subst h16
    have Hr := Lib.hid hr
    rcases rd_rows hr with h | ⟨B, o, rfl, hB, hcc⟩
    · subst h; simp at hn
    have Hn := Lib.hid hn
    have Hc := Lib.hid hcc
    have HF := Lib.hid (fndP_yes hR a)
    have HS := Lib.hid (fun i b x (h : l[i]? = some (⟨b, x⟩ : Rw)) => fits_lo (hR.fits i _ h))
    have hb := rightB_yes hR
    clear hn hr hcc hR
    go_enter Try.func12, Try.ntmps12
    go_wp2
    go_loopw [6] (fun i wr => ∃ j : Nat, j ≤ 16 ∧ i = .int .i64 (j : Int) ∧ Hid (∀ (k : Nat) s, k < j → l[k]? = some s → ¬ (s.refs ≠ 0 ∧ s.lab = a)) ∧ ∃ q, wr = w.drewN q) (fun i _ => 16 - (intOf i).toNat)
    case atStart => exact ⟨0, Nat.zero_le _, rfl, Lib.hid (fun k s hk => by omega), 0, rfl⟩
    case round =>
      obtain ⟨j, hj, rfl, Hf, q, rfl⟩ := hrel
      by_cases hlt : j < 16
      · obtain ⟨⟨b, x⟩, hrj⟩ : ∃ r, l[j]? = some r := ⟨_, List.getElem?_eq_getElem (by rw [Hn.out]; exact hlt)⟩
        obtain ⟨d0, d1⟩ := Hc.out j ⟨b, x⟩ hrj
        have hx0 := HS.out j b x hrj
        have HJ := Lib.hid hrj
        have hji : (j : Int) < 16 := by omega
        clear hrj
        by_cases hx : 0 < x
        · have g1 : decide (0 < x) = true := decide_eq_true hx
          by_cases hba : b = a
          · subst hba
            have g2 : ((b : Int) == (b : Int)) = true := by simp
            have HA : Hid (fnd l b = some j) := Lib.hid (fnd_mk HJ.out (by show x ≠ 0; omega) rfl Hf.out)
            clear hx0
            go_wp2_with (go_at_call 18; (with_reducible refine (rright_all l _ 16 c _ _ Hn.out (Hr.out.drewN q)).mono ?_); rintro e w1 ⟨he, q1, hw1⟩; obtain rfl := he; rw [hb]; subst hw1)
            go_ret2
            exact ⟨by rw [HF.out, HA.out]; rfl, q + q1, by first | rfl | rw [World.drewN_drewN]⟩
          · have g2 : ((b : Int) == (a : Int)) = false := by rw [beq_cast]; simp [hba]
            have Hf2 : Hid (∀ (k : Nat) s, k < j + 1 → l[k]? = some s → ¬ (s.refs ≠ 0 ∧ s.lab = a)) := Lib.hid fun k s hk hs => by
              by_cases e : k = j
              · subst e
                rw [HJ.out] at hs
                injection hs with hs
                subst hs
                intro ⟨_, h⟩; exact hba h
              · exact Hf.out k s (by omega) hs
            clear hx0 hba
            go_wp2_with (go_at_call 18; (with_reducible refine (rright_all l _ 16 c _ _ Hn.out (Hr.out.drewN q)).mono ?_); rintro e w1 ⟨he, q1, hw1⟩; obtain rfl := he; rw [hb]; subst hw1)
            go_roundw
            case rel => exact ⟨j + 1, by omega, by go_num, Hf2, q + q1, by first | rfl | rw [World.drewN_drewN]⟩
            case measure => simp [intOf]; omega
        · have g1 : decide (0 < x) = false := decide_eq_false hx
          have Hf2 : Hid (∀ (k : Nat) s, k < j + 1 → l[k]? = some s → ¬ (s.refs ≠ 0 ∧ s.lab = a)) := Lib.hid fun k s hk hs => by
            by_cases e : k = j
            · subst e
              rw [HJ.out] at hs
              injection hs with hs
              subst hs
              intro ⟨h, _⟩; exact h (by show x = 0; omega)
            · exact Hf.out k s (by omega) hs
          clear hx0
          go_wp2_with (go_at_call 18; (with_reducible refine (rright_all l _ 16 c _ _ Hn.out (Hr.out.drewN q)).mono ?_); rintro e w1 ⟨he, q1, hw1⟩; obtain rfl := he; rw [hb]; subst hw1)
          go_roundw
          case rel => exact ⟨j + 1, by omega, by go_num, Hf2, q + q1, by first | rfl | rw [World.drewN_drewN]⟩
          case measure => simp [intOf]; omega
      · obtain rfl : j = 16 := by omega
        have HA : Hid (fnd l a = none) := Lib.hid (by
          cases hfa : fnd l a with
          | none => rfl
          | some i =>
            obtain ⟨r, h1, h2, h3, _⟩ := fnd_some hfa
            exact absurd ⟨h2, h3⟩ (Hf.out i r (by have := (List.getElem?_eq_some_iff.1 h1).1; rw [Hn.out] at this; exact this) h1))
        go_wp2
        go_ret2
        exact ⟨by rw [HF.out, HA.out]; rfl, q, rfl⟩
  · have hb := rightB_no hR
    have HF := Lib.hid (fndP_no hR a)
    have Hn := Lib.hid hn
    have Hr := Lib.hid hr
    clear hR hn hr
    by_cases h0 : n = 0
    · subst h0
      go_enter Try.func12, Try.ntmps12
      go_wp2
      go_loop [6] (fun i => i = .int .i64 0) (fun _ => 0)
      case atStart => rfl
      case round =>
        obtain rfl := hrel
        go_wp2
        go_ret2
        exact ⟨by rw [HF.out]; rfl, 0, rfl⟩
    · have h1 : (0 : Int) < (n : Int) := by omega
      go_enter Try.func12, Try.ntmps12
      go_wp2
      go_loop [6] (fun i => i = .int .i64 0) (fun _ => 0)
      case atStart => rfl
      case round =>
        obtain rfl := hrel
        go_wp2_with (go_at_call 18; (with_reducible refine (rright_all l _ n c _ _ Hn.out Hr.out).mono ?_); rintro e w1 ⟨he, q1, hw1⟩; obtain rfl := he; rw [hb]; subst hw1)
        go_ret2
        exact ⟨by rw [HF.out]; rfl, q1, rfl⟩
end Go.Proofs.Ytdecllllcoflbaa.Intern
