/-
  Package intern's Right and the document's: whether rows are valid.
-/
import Derived.Test.YtdecllllcoflbaaX0
namespace Go.Proofs.Ytdecllllcoflbaa.Intern
open Go.RowKit

theorem right_size (A : Option Addr) (n c : Nat) (w : World) (h : n ≠ 16) : Calls Try.prog 17 #[.slice A n c] w fun e w' => e = .returned (.bool false) ∧ w = w' := by
  have hb : ((n : Int) != 16) = true := by simp; omega
  go_enter Try.func17, Try.ntmps17
  go_wp2
  go_ret
  exact ⟨rfl, rfl⟩
theorem rright_size (A : Option Addr) (n c : Nat) (w : World) (h : n ≠ 16) : Calls Try.prog 18 #[.slice A n c] w fun e w' => e = .returned (.bool false) ∧ w = w' := by
  have hb : ((n : Int) != 16) = true := by simp; omega
  go_enter Try.func18, Try.ntmps18
  go_wp2
  go_ret
  exact ⟨rfl, rfl⟩

/-- What stands in the variable of the loop, behind a call. -/
theorem kept_row {w w1 : World} {a : Nat} {x : Int} (hb : Below (w.alloc (.cells #[.int .u16 (a : Int), .int .i64 x] 37)).heap.size (w.alloc (.cells #[.int .u16 (a : Int), .int .i64 x] 37)) w1) :
    w1.cell? ⟨w.heap.size, 0, none⟩ = some (.int .u16 (a : Int)) ∧ w1.cell? ⟨w.heap.size, 1, none⟩ = some (.int .i64 x) ∧ Below w.heap.size w w1 ∧ w.heap.size < w1.heap.size := by
  have hk : Bk (w.alloc (.cells #[.int .u16 (a : Int), .int .i64 x] 37)) w.heap.size 37 [.int .u16 (a : Int), .int .i64 x] := Bk.new w 37 _
  have hk1 := hk.below hb (by simp)
  exact ⟨hk1.cell 0, hk1.cell 1, ((Below.refl _ w).alloc (Nat.le_refl _) _).trans (hb.mono (by simp)), by have := hb.size; simp at this; omega⟩

set_option maxHeartbeats 800000 in
/-- The rows up to one that is not in order, or all. -/
theorem right_any (l : List Rw) (A : Option Addr) (c : Nat) (w : World) (hn : l.length = 16) (hr : Rd w w.heap.size A (rowsV l)) :
    Calls Try.prog 17 #[.slice A 16 c] w fun e w' => e = .returned (.bool (rightB l)) ∧ Below w.heap.size w w' := by
  have Hn := Lib.hid hn
  have Hr := Lib.hid hr
  clear hn hr
  go_enter Try.func17, Try.ntmps17
  go_wp2
  go_loopw [3, 4, 10] (fun _ _ i wr => ∃ j : Nat, j ≤ 16 ∧ i = .int .i64 (j : Int) ∧ Hid (∀ (k : Nat) r, k < j → l[k]? = some r → Good l k r) ∧ Below w.heap.size w wr) (fun _ _ i _ => 16 - (intOf i).toNat)
  case atStart => exact ⟨0, Nat.zero_le _, rfl, Lib.hid (fun k s hk => by omega), Below.refl _ _⟩
  case round =>
    obtain ⟨j, hj, rfl, Hf, hb⟩ := hrel
    have Hb := Lib.hid hb
    clear hb
    by_cases hlt : j < 16
    · obtain ⟨⟨b, x⟩, hrj⟩ : ∃ r, l[j]? = some r := ⟨_, List.getElem?_eq_getElem (by rw [Hn.out]; exact hlt)⟩
      obtain ⟨B, o, rfl, hB, hc0, hc1⟩ := rd_row (Hr.out.below Hb.out) hrj
      have HR := Lib.hid hrj
      have hs := Nat.lt_of_lt_of_le hB Hb.out.size
      clear hrj hB
      cases hfit : fits ⟨b, x⟩ with
      | false =>
        have hR : ¬ Right l := fun h => by have := h.fits j _ HR.out; rw [hfit] at this; cases this
        have HR := Lib.hid hR
        clear hR
        go_wp2_with (go_at_call 29; (with_reducible refine (fits_row b x _).mono ?_); rintro e w1 ⟨he, hb1⟩; obtain rfl := he; obtain ⟨c0, c1, hb1', hs1⟩ := kept_row hb1; have HB1 := Lib.hid (Hb.out.trans (hb1'.mono Hb.out.size)); clear hb1 hb1'; rw [hfit])
        go_ret
        exact ⟨ret_bool (rightB_no HR.out).symm, HB1.out⟩
      | true =>
        by_cases hx0 : x = 0
        · subst hx0
          have Hnext : Hid (∀ (k : Nat) r, k < j + 1 → l[k]? = some r → Good l k r) := Lib.hid fun k r hk hs => by
            by_cases e : k = j
            · subst e
              rw [HR.out] at hs
              injection hs with hs
              rw [← hs]; exact ⟨hfit, .inl rfl⟩
            · exact Hf.out k r (by omega) hs
          have hbb : ((0 : Int) == 0) = true := rfl
          go_wp2_with (first
            | (go_at_call 29; (with_reducible refine (fits_row b 0 _).mono ?_); rintro e w1 ⟨he, hb1⟩; obtain rfl := he; obtain ⟨c0, c1, hb1', hs1⟩ := kept_row hb1; have HB1 := Lib.hid (Hb.out.trans (hb1'.mono Hb.out.size)); clear hb1 hb1'; rw [hfit])
            | (go_at_call 28; (with_reducible refine (isFree_any b 0 _).mono ?_); rintro e w2 ⟨he, hw2⟩; obtain rfl := he; have hb2 : Below w1.heap.size w1 w2 := (by subst hw2; exact alloc_below _ _); clear hw2; have d0 := (hb2.cell hs1).trans c0; have hs2 := Nat.lt_of_lt_of_le hs1 hb2.size; have HB2 := Lib.hid (HB1.out.trans (hb2.mono HB1.out.size)); clear hb2))
          go_roundw
          case rel => exact ⟨j + 1, by omega, by go_num, Hnext, HB2.out⟩
          case measure => simp [intOf]; omega
        · have hbb : (x == 0) = false := by simp [hx0]
          by_cases hp : fnd l b = some j
          · have Hnext : Hid (∀ (k : Nat) r, k < j + 1 → l[k]? = some r → Good l k r) := Lib.hid fun k r hk hs => by
              by_cases e : k = j
              · subst e
                rw [HR.out] at hs
                injection hs with hs
                rw [← hs]; exact ⟨hfit, .inr hp⟩
              · exact Hf.out k r (by omega) hs
            have HP : Hid (placeI (l.findIdx? (hasL b)) = (j : Int)) := Lib.hid (by have : l.findIdx? (hasL b) = some j := hp; rw [this]; rfl)
            have hne : ((j : Int) != (j : Int)) = false := by simp
            clear hp
            go_wp2_with (first
              | (go_at_call 29; (with_reducible refine (fits_row b x _).mono ?_); rintro e w1 ⟨he, hb1⟩; obtain rfl := he; obtain ⟨c0, c1, hb1', hs1⟩ := kept_row hb1; have HB1 := Lib.hid (Hb.out.trans (hb1'.mono Hb.out.size)); clear hb1 hb1'; rw [hfit])
              | (go_at_call 28; (with_reducible refine (isFree_any b x _).mono ?_); rintro e w2 ⟨he, hw2⟩; obtain rfl := he; have hb2 : Below w1.heap.size w1 w2 := (by subst hw2; exact alloc_below _ _); clear hw2; have d0 := (hb2.cell hs1).trans c0; have hs2 := Nat.lt_of_lt_of_le hs1 hb2.size; have HB2 := Lib.hid (HB1.out.trans (hb2.mono HB1.out.size)); clear hb2)
              | (go_at_call 26; (with_reducible refine (has_any b _).mono ?_); rintro e w3 ⟨he, hw3⟩; obtain rfl := he; have hb3 : Below w2.heap.size w2 w3 := (by subst hw3; exact alloc_below _ _); have k0 : w3.cell? ⟨w2.heap.size, 0, none⟩ = some (.int .u16 (b : Int)) := (by subst hw3; exact (Bk.new w2 24 [.int .u16 (b : Int)]).cell 0); have ks : w2.heap.size < w3.heap.size := (by subst hw3; simp); clear hw3; have HB3 := Lib.hid (HB2.out.trans (hb3.mono HB2.out.size)); clear hb3)
              | (go_at_call 25; (with_reducible refine (index_has l _ 16 c _ b _ k0 ks Hn.out ((Hr.out.below HB3.out).more HB3.out.size) (by omega)).mono ?_); rintro e w4 ⟨he, hb4⟩; obtain rfl := he; have HB4 := Lib.hid (HB3.out.trans (hb4.mono HB3.out.size)); clear hb4; rw [HP.out]))
            go_roundw
            case rel => exact ⟨j + 1, by omega, by go_num, Hnext, HB4.out⟩
            case measure => simp [intOf]; omega
          · have hR : ¬ Right l := fun h => by
              rcases (h.good HR.out).2 with h | h
              · exact hx0 h
              · exact hp h
            have HR2 := Lib.hid hR
            clear hR
            obtain ⟨q, hq⟩ : ∃ q, placeI (l.findIdx? (hasL b)) = q := ⟨_, rfl⟩
            have hne : (q != (j : Int)) = true := by
              rw [bne_iff_ne]
              intro e
              apply hp
              unfold fnd
              rw [e] at hq
              cases hF : l.findIdx? (hasL b) with
              | none => rw [hF] at hq; simp only [placeI] at hq; omega
              | some m => rw [hF] at hq; simp only [placeI] at hq; congr 1; omega
            have HP := Lib.hid hq
            clear hp hq
            go_wp2_with (first
              | (go_at_call 29; (with_reducible refine (fits_row b x _).mono ?_); rintro e w1 ⟨he, hb1⟩; obtain rfl := he; obtain ⟨c0, c1, hb1', hs1⟩ := kept_row hb1; have HB1 := Lib.hid (Hb.out.trans (hb1'.mono Hb.out.size)); clear hb1 hb1'; rw [hfit])
              | (go_at_call 28; (with_reducible refine (isFree_any b x _).mono ?_); rintro e w2 ⟨he, hw2⟩; obtain rfl := he; have hb2 : Below w1.heap.size w1 w2 := (by subst hw2; exact alloc_below _ _); clear hw2; have d0 := (hb2.cell hs1).trans c0; have hs2 := Nat.lt_of_lt_of_le hs1 hb2.size; have HB2 := Lib.hid (HB1.out.trans (hb2.mono HB1.out.size)); clear hb2)
              | (go_at_call 26; (with_reducible refine (has_any b _).mono ?_); rintro e w3 ⟨he, hw3⟩; obtain rfl := he; have hb3 : Below w2.heap.size w2 w3 := (by subst hw3; exact alloc_below _ _); have k0 : w3.cell? ⟨w2.heap.size, 0, none⟩ = some (.int .u16 (b : Int)) := (by subst hw3; exact (Bk.new w2 24 [.int .u16 (b : Int)]).cell 0); have ks : w2.heap.size < w3.heap.size := (by subst hw3; simp); clear hw3; have HB3 := Lib.hid (HB2.out.trans (hb3.mono HB2.out.size)); clear hb3)
              | (go_at_call 25; (with_reducible refine (index_has l _ 16 c _ b _ k0 ks Hn.out ((Hr.out.below HB3.out).more HB3.out.size) (by omega)).mono ?_); rintro e w4 ⟨he, hb4⟩; obtain rfl := he; have HB4 := Lib.hid (HB3.out.trans (hb4.mono HB3.out.size)); clear hb4; rw [HP.out]))
            go_ret
            exact ⟨ret_bool (rightB_no HR2.out).symm, HB4.out⟩
    · obtain rfl : j = 16 := by omega
      have hR : Right l := right_of_good Hn.out fun k r hk => Hf.out k r (by have := (List.getElem?_eq_some_iff.1 hk).1; rw [Hn.out] at this; exact this) hk
      have HR := Lib.hid hR
      clear hR
      go_wp2
      go_ret
      exact ⟨ret_bool (rightB_yes HR.out).symm, Hb.out⟩

/-- Two rows, as the document compares them. -/
theorem fits_not {b : Nat} {x : Int} (h : fits ⟨b, x⟩ = false) : x < 0 ∨ 65535 < x ∨ (x = 0 ∧ b ≠ 0) := by
  unfold fits at h
  by_cases h0 : x = 0
  · subst h0
    simp at h
    exact .inr (.inr ⟨rfl, h⟩)
  · simp [h0] at h
    omega

set_option maxHeartbeats 1600000 in
set_option maxRecDepth 100000 in
theorem rright_any (l : List Rw) (A : Option Addr) (c : Nat) (B0 : Nat) (w : World) (hn : l.length = 16) (hr : Rd w B0 A (rowsV l)) :
    Calls Try.prog 18 #[.slice A 16 c] w fun e w' => e = .returned (.bool (rightB l)) ∧ ∃ q, w' = w.drewN q := by
  rcases rd_rows hr with h | ⟨B, o, rfl, hB, hcc⟩
  · subst h; simp at hn
  have Hn := Lib.hid hn
  have Hc := Lib.hid hcc
  clear hn hr hcc
  go_enter Try.func18, Try.ntmps18
  go_wp2
  go_loopw [3] (fun i wr => ∃ j : Nat, j ≤ 16 ∧ i = .int .i64 (j : Int) ∧ Hid (∀ (m : Nat) r, m < j → l[m]? = some r → fits r = true ∧ ∀ (t : Nat) s, t < m → l[t]? = some s → ¬ clash r s) ∧ ∃ q, wr = w.drewN q) (fun i _ => 16 - (intOf i).toNat)
  case atStart => exact ⟨0, Nat.zero_le _, rfl, Lib.hid (fun k s hk => by omega), 0, rfl⟩
  case round =>
    obtain ⟨j, hj, rfl, Hf, q, rfl⟩ := hrel
    by_cases hlt : j < 16
    · obtain ⟨⟨b, x⟩, hrj⟩ : ∃ r, l[j]? = some r := ⟨_, List.getElem?_eq_getElem (by rw [Hn.out]; exact hlt)⟩
      obtain ⟨c0, c1⟩ := Hc.out j ⟨b, x⟩ hrj
      have HR := Lib.hid hrj
      have f0 : (0 : Int) ≤ (j : Int) := Int.natCast_nonneg _
      have f1 : (j : Int) < 16 := by omega
      clear hrj
      cases hfit : fits ⟨b, x⟩ with
      | false =>
        rcases fits_not hfit with hx | hx | ⟨hx, hb⟩
        · have g0 : decide (x < 0) = true := decide_eq_true hx
          have hR : ¬ Right l := fun h => by have := h.fits j _ HR.out; rw [hfit] at this; cases this
          have HR2 := Lib.hid hR
          clear hR
          go_wp2
          go_ret
          exact ⟨ret_bool (rightB_no HR2.out).symm, q, rfl⟩
        · have g0 : decide (x < 0) = false := decide_eq_false (by omega)
          have g1 : decide (65535 < x) = true := decide_eq_true hx
          have hR : ¬ Right l := fun h => by have := h.fits j _ HR.out; rw [hfit] at this; cases this
          have HR2 := Lib.hid hR
          clear hR
          go_wp2
          go_ret
          exact ⟨ret_bool (rightB_no HR2.out).symm, q, rfl⟩
        · subst hx
          have g2 : ((0 : Int) == 0) = true := rfl
          have g3 : ((b : Int) != 0) = true := by simp; omega
          have hR : ¬ Right l := fun h => by have := h.fits j _ HR.out; rw [hfit] at this; cases this
          have HR2 := Lib.hid hR
          clear hR
          go_wp2
          go_ret
          exact ⟨ret_bool (rightB_no HR2.out).symm, q, rfl⟩
      | true =>
       by_cases hx0 : x = 0
       · subst hx0
         obtain rfl : b = 0 := fits_free hfit rfl
         have g2 : ((0 : Int) == 0) = true := rfl
         have g3 : ((0 : Int) != 0) = false := rfl
         go_wp2
         go_loopw [4] (fun i wr => ∃ k : Nat, k ≤ j ∧ i = .int .i64 (k : Int) ∧ Hid (∀ (m : Nat) s, m < k → l[m]? = some s → ¬ clash ⟨0, 0⟩ s) ∧ ∃ q, wr = w.drewN q) (fun i _ => j - (intOf i).toNat)
         case atStart => exact ⟨0, Nat.zero_le _, rfl, Lib.hid (fun m s hm => by omega), q, rfl⟩
         case round =>
           obtain ⟨k, hk, rfl, Hk, q2, rfl⟩ := hrel
           by_cases hkj : k < j
           · obtain ⟨⟨a, y⟩, hsk⟩ : ∃ r, l[k]? = some r := ⟨_, List.getElem?_eq_getElem (by rw [Hn.out]; omega)⟩
             obtain ⟨d0, d1⟩ := Hc.out k ⟨a, y⟩ hsk
             have HS := Lib.hid hsk
             have e0 : (0 : Int) ≤ (k : Int) := Int.natCast_nonneg _
             have e1 : (k : Int) < 16 := by omega
             clear hsk
             have Hk2 : Hid (∀ (m : Nat) s, m < k + 1 → l[m]? = some s → ¬ clash ⟨0, 0⟩ s) := Lib.hid fun m s hm hs => by
               by_cases e : m = k
               · subst e
                 rw [HS.out] at hs
                 injection hs with hs
                 subst hs
                 intro ⟨h1, _, _⟩; exact absurd h1 (by decide)
               · exact Hk.out m s (by omega) hs
             have g0 : decide ((0 : Int) < 0) = false := rfl
             go_wp2
             go_quiet (fail)
             go_wp2
             go_roundw
             case rel => exact ⟨k + 1, by omega, by go_num, Hk2, q2 + nq, rfl⟩
             case measure => simp [intOf]; omega
           · obtain rfl : k = j := by omega
             have Hf2 : Hid (∀ (m : Nat) r, m < k + 1 → l[m]? = some r → fits r = true ∧ ∀ (t : Nat) s, t < m → l[t]? = some s → ¬ clash r s) := Lib.hid fun m r hm hs => by
               by_cases e : m = k
               · subst e
                 rw [HR.out] at hs
                 injection hs with hs
                 subst hs
                 exact ⟨hfit, fun t s ht hs => Hk.out t s ht hs⟩
               · exact Hf.out m r (by omega) hs
             go_wp2
             go_roundw
             case rel => exact ⟨k + 1, by omega, by go_num, Hf2, q2, rfl⟩
             case measure => simp [intOf]; omega
       · have hx1 := fits_lo hfit
         have hx2 := fits_hi hfit
         simp only at hx1 hx2
         have hx : 0 < x := by omega
         have g0 : decide (x < 0) = false := decide_eq_false (by omega)
         have g1 : decide (65535 < x) = false := decide_eq_false (by omega)
         have g2 : (x == 0) = false := by simp [hx0]
         have g4 : decide (0 < x) = true := decide_eq_true hx
         clear hx0 hx1 hx2
         go_wp2
         go_loopw [4] (fun i wr => ∃ k : Nat, k ≤ j ∧ i = .int .i64 (k : Int) ∧ Hid (∀ (m : Nat) s, m < k → l[m]? = some s → ¬ clash ⟨b, x⟩ s) ∧ ∃ q, wr = w.drewN q) (fun i _ => j - (intOf i).toNat)
         case atStart => exact ⟨0, Nat.zero_le _, rfl, Lib.hid (fun m s hm => by omega), q, rfl⟩
         case round =>
           obtain ⟨k, hk, rfl, Hk, q2, rfl⟩ := hrel
           by_cases hkj : k < j
           · obtain ⟨⟨a, y⟩, hsk⟩ : ∃ r, l[k]? = some r := ⟨_, List.getElem?_eq_getElem (by rw [Hn.out]; omega)⟩
             obtain ⟨d0, d1⟩ := Hc.out k ⟨a, y⟩ hsk
             have HS := Lib.hid hsk
             have e0 : (0 : Int) ≤ (k : Int) := Int.natCast_nonneg _
             have e1 : (k : Int) < 16 := by omega
             clear hsk
             by_cases hy : 0 < y
             · have g1 : decide (0 < y) = true := decide_eq_true hy
               by_cases hab : b = a
               · have hR : ¬ Right l := fun h => h.pairs HR.out HS.out hkj ⟨hx, hy, hab⟩
                 have HR2 := Lib.hid hR
                 subst hab
                 have g2 : ((b : Int) == (b : Int)) = true := by simp
                 clear hR
                 go_wp2
                 go_quiet (fail)
                 go_wp2
                 go_ret
                 exact ⟨ret_bool (rightB_no HR2.out).symm, q2 + nq, by rw [World.drewN_drewN]⟩
               · have g2 : ((b : Int) == (a : Int)) = false := by rw [beq_cast]; simp [hab]
                 have Hk2 : Hid (∀ (m : Nat) s, m < k + 1 → l[m]? = some s → ¬ clash ⟨b, x⟩ s) := Lib.hid fun m s hm hs => by
                   by_cases e : m = k
                   · subst e
                     rw [HS.out] at hs
                     injection hs with hs
                     subst hs
                     intro ⟨_, _, h3⟩; exact hab h3
                   · exact Hk.out m s (by omega) hs
                 clear hab
                 go_wp2
                 go_quiet (fail)
                 go_wp2
                 go_roundw
                 case rel => exact ⟨k + 1, by omega, by go_num, Hk2, q2 + nq, rfl⟩
                 case measure => simp [intOf]; omega
             · have g1 : decide (0 < y) = false := decide_eq_false hy
               have Hk2 : Hid (∀ (m : Nat) s, m < k + 1 → l[m]? = some s → ¬ clash ⟨b, x⟩ s) := Lib.hid fun m s hm hs => by
                 by_cases e : m = k
                 · subst e
                   rw [HS.out] at hs
                   injection hs with hs
                   subst hs
                   intro ⟨_, h2, _⟩; exact hy h2
                 · exact Hk.out m s (by omega) hs
               go_wp2
               go_quiet (fail)
               go_wp2
               go_roundw
               case rel => exact ⟨k + 1, by omega, by go_num, Hk2, q2 + nq, rfl⟩
               case measure => simp [intOf]; omega
           · obtain rfl : k = j := by omega
             have Hf2 : Hid (∀ (m : Nat) r, m < k + 1 → l[m]? = some r → fits r = true ∧ ∀ (t : Nat) s, t < m → l[t]? = some s → ¬ clash r s) := Lib.hid fun m r hm hs => by
               by_cases e : m = k
               · subst e
                 rw [HR.out] at hs
                 injection hs with hs
                 subst hs
                 exact ⟨hfit, fun t s ht hs => Hk.out t s ht hs⟩
               · exact Hf.out m r (by omega) hs
             go_wp2
             go_roundw
             case rel => exact ⟨k + 1, by omega, by go_num, Hf2, q2, rfl⟩
             case measure => simp [intOf]; omega
    · obtain rfl : j = 16 := by omega
      have hR : Right l := right_of_pairs Hn.out fun k r hk => Hf.out k r (by have := (List.getElem?_eq_some_iff.1 hk).1; rw [Hn.out] at this; exact this) hk
      have HR := Lib.hid hR
      clear hR
      go_wp2
      go_ret
      exact ⟨ret_bool (rightB_yes HR.out).symm, q, rfl⟩

/-- Right, of any rows. -/
theorem right_all (l : List Rw) (A : Option Addr) (n c : Nat) (w : World) (hn : l.length = n) (hr : Rd w w.heap.size A (rowsV l)) :
    Calls Try.prog 17 #[.slice A n c] w fun e w' => e = .returned (.bool (rightB l)) ∧ Below w.heap.size w w' := by
  by_cases h : n = 16
  · subst h
    exact right_any l A c w hn hr
  · refine (right_size A n c w h).mono ?_
    rintro e w' ⟨rfl, rfl⟩
    exact ⟨ret_bool (rightB_size (by omega)).symm, Below.refl _ _⟩
theorem rright_all (l : List Rw) (A : Option Addr) (n c B : Nat) (w : World) (hn : l.length = n) (hr : Rd w B A (rowsV l)) :
    Calls Try.prog 18 #[.slice A n c] w fun e w' => e = .returned (.bool (rightB l)) ∧ ∃ q, w' = w.drewN q := by
  by_cases h : n = 16
  · subst h
    exact rright_any l A c B w hn hr
  · refine (rright_size A n c w h).mono ?_
    rintro e w' ⟨rfl, rfl⟩
    exact ⟨ret_bool (rightB_size (by omega)).symm, 0, rfl⟩
end Go.Proofs.Ytdecllllcoflbaa.Intern
