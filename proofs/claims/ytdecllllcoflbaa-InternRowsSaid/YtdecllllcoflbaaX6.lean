/-
  The document's Retain and Release.
-/
import Derived.Test.YtdecllllcoflbaaX5
namespace Go.Proofs.Ytdecllllcoflbaa.Intern
open Go.RowKit

theorem given_own {w w' : World} {v : Value} {m : List Rw} (hm : m.length = 16) (ho : w'.ownsRow w.heap.size 37 2 v 16 (rowsV m)) (hb : Below w.heap.size w w') : Given w w' v m := ⟨by rw [hm]; exact ho, hb⟩
theorem hands3_own {w w' : World} {r : Res} {m : List Rw} {i : Nat} {v : Value} (hr : r = ⟨m, i, 0⟩) (hm : m.length = 16) (ho : w'.ownsRow w.heap.size 37 2 v 16 (rowsV m)) (hb : Below w.heap.size w w') :
    Hands3 w r (.returned (.tuple #[v, .int .i64 (i : Int), .int .i64 0])) w' := by
  subst hr
  exact ⟨_, rfl, given_own hm ho hb⟩
theorem hands2_own {w w' : World} {r : Res} {m : List Rw} {v : Value} (hr : r = ⟨m, 0, 0⟩) (hm : m.length = 16) (ho : w'.ownsRow w.heap.size 37 2 v 16 (rowsV m)) (hb : Below w.heap.size w w') :
    Hands2 w r (.returned (.tuple #[v, .int .i64 0])) w' := by
  subst hr
  exact ⟨_, rfl, given_own hm ho hb⟩
/-- A label that is struck behind refs that are 0. -/
theorem own_zero {w : World} {base g c i b : Nat} {l : List Rw} (h : w.ownsRow base 37 2 (.slice (some ⟨g, 0, none⟩) 16 c) 16 (rowsV (l.set i ⟨b, 0⟩))) (hi : i < l.length) :
    (w.setCell ⟨g, i * 2, none⟩ (.int .u16 0)).ownsRow base 37 2 (.slice (some ⟨g, 0, none⟩) 16 c) 16 (rowsV (l.set i .z)) := by
  have h1 := (h.stored (i * 2) (.int .u16 0)).1
  have e : (rowsV (l.set i ⟨b, 0⟩)).set (i * 2) (.int .u16 0) = rowsV (l.set i .z) := by
    rw [rowsV_set l i _ hi, rowsV_set l i _ hi, List.set_comm _ _ (by omega), List.set_set]
    rfl
  rw [e] at h1
  exact h1

set_option maxHeartbeats 800000 in
theorem rret_no (l : List Rw) (A : Option Addr) (n c a : Nat) (w : World) (hn : l.length = n) (hr : Rd w w.heap.size A (rowsV l)) (hR : ¬ Right l) :
    Calls Try.prog 14 #[.slice A n c, .int .u16 (a : Int)] w fun e w' => Hands3 w (retP l a) e w' := by
  have Hn := Lib.hid hn
  have Hr := Lib.hid hr
  have hb := rightB_no hR
  have HP := Lib.hid (retP_no hR a)
  clear hn hr hR
  go_enter Try.func14, Try.ntmps14
  go_wp2_with (go_at_call 18; (with_reducible refine (rright_all l _ n c _ _ Hn.out Hr.out).mono ?_); rintro e w1 ⟨he, q1, hw1⟩; obtain rfl := he; rw [hb]; subst hw1)
  go_ret3
  exact hands3_nil HP.out (below_drewN (Below.refl _ _) _)

set_option maxHeartbeats 800000 in
theorem rret_found (l : List Rw) (A : Option Addr) (c a i : Nat) (w : World) (hn : l.length = 16) (hr : Rd w w.heap.size A (rowsV l)) (hR : Right l) (hf : fnd l a = some i) :
    Calls Try.prog 14 #[.slice A 16 c, .int .u16 (a : Int)] w fun e w' => Hands3 w (retP l a) e w' := by
  obtain ⟨⟨b, x⟩, hri, hx0, hba, _⟩ := fnd_some hf
  simp only at hx0 hba
  subst hba
  have hlo := fits_lo (hR.fits i _ hri)
  have hhi := fits_hi (hR.fits i _ hri)
  simp only at hlo hhi
  obtain ⟨B, o, rfl, hB, hcc⟩ : ∃ B o, A = some ⟨B, o, none⟩ ∧ B < w.heap.size ∧ (w.cell? ⟨B, o + i * 2, none⟩ = some (.int .u16 (b : Int)) ∧ w.cell? ⟨B, o + i * 2 + 1, none⟩ = some (.int .i64 x)) := rd_row hr hri
  have hi : i < 16 := by rw [← hn]; exact (List.getElem?_eq_some_iff.1 hri).1
  have hii : (i : Int) < 16 := by omega
  have Hn := Lib.hid hn
  have Hr := Lib.hid hr
  have Hc := Lib.hid hcc
  have hb := rightB_yes hR
  have HF := Lib.hid (fndP_yes hR b)
  have HA := Lib.hid hf
  have HI := Lib.hid hri
  have HL := Lib.hid (fun h => retP_long hR hf hri h)
  have HM := Lib.hid (fun h => retP_more hR hf hri h)
  clear hn hr hR hf hri hcc
  by_cases hx : x = 65535
  · have HP := Lib.hid (HL.out hx)
    clear HL HM
    subst hx
    go_enter Try.func14, Try.ntmps14
    go_wp2_with (first
      | (go_at_call 18; (with_reducible refine (rright_all l _ 16 c _ _ Hn.out Hr.out).mono ?_); rintro e w1 ⟨he, q1, hw1⟩; obtain rfl := he; rw [hb]; subst hw1)
      | (at_builtin; refine wpList_fresh _ rfl (.tmp 14) (.tmp 15) rfl _ rfl rfl _ 16 c l rfl Hn.out (Hr.out.drewN _) (by decide) ?_; intro v3 w3 hown3 hb3; obtain ⟨g, c3, hv3, hg3⟩ := own16 hown3; subst hv3; have HB3 := Lib.hid ((below_drewN (Below.refl _ _) q1).trans hb3 : Below w.heap.size w w3); have HO3 := Lib.hid (show w3.ownsRow w.heap.size 37 2 (.slice (some ⟨g, 0, none⟩) 16 c3) 16 (rowsV l) from hown3); have hg4 : w.heap.size ≤ g := hg3; have hsg : g < w3.heap.size := (hown3.lt g rfl).2; clear hb3 hown3 hg3)
      | (go_at_call 12; (with_reducible refine (rfind_any l _ 16 c b _ _ Hn.out (Hr.out.below HB3.out) (by omega)).mono ?_); rintro e w4 ⟨he, q4, hw4⟩; obtain rfl := he; rw [HF.out, HA.out]; have HB4 := Lib.hid (by subst hw4; exact below_drewN HB3.out q4 : Below w.heap.size w w4); have HO4 := Lib.hid (by subst hw4; exact HO3.out : w4.ownsRow w.heap.size 37 2 (.slice (some ⟨g, 0, none⟩) 16 c3) 16 (rowsV l)); have hs4 : g < w4.heap.size := (by subst hw4; exact hsg); clear hw4; have c1 := (HB4.out.cell hB).trans Hc.out.2; have hB2 := Nat.lt_of_lt_of_le hB HB4.out.size; simp only [fndV, Option.getD_some, Option.isSome_some]))
    go_ret3
    exact hands3_nil HP.out HB4.out
  · have HP := Lib.hid (HM.out hx)
    have g0 : (x == 65535) = false := by simp [hx]
    have g1 : IntKind.i64.wrap (x + 1) = x + 1 := by rw [IntKind.wrap_i64]; omega
    clear HL HM
    go_enter Try.func14, Try.ntmps14
    go_wp2_with (first
      | (go_at_call 18; (with_reducible refine (rright_all l _ 16 c _ _ Hn.out Hr.out).mono ?_); rintro e w1 ⟨he, q1, hw1⟩; obtain rfl := he; rw [hb]; subst hw1)
      | (at_builtin; refine wpList_fresh _ rfl (.tmp 14) (.tmp 15) rfl _ rfl rfl _ 16 c l rfl Hn.out (Hr.out.drewN _) (by decide) ?_; intro v3 w3 hown3 hb3; obtain ⟨g, c3, hv3, hg3⟩ := own16 hown3; subst hv3; have HB3 := Lib.hid ((below_drewN (Below.refl _ _) q1).trans hb3 : Below w.heap.size w w3); have HO3 := Lib.hid (show w3.ownsRow w.heap.size 37 2 (.slice (some ⟨g, 0, none⟩) 16 c3) 16 (rowsV l) from hown3); have hg4 : w.heap.size ≤ g := hg3; have hsg : g < w3.heap.size := (hown3.lt g rfl).2; clear hb3 hown3 hg3)
      | (go_at_call 12; (with_reducible refine (rfind_any l _ 16 c b _ _ Hn.out (Hr.out.below HB3.out) (by omega)).mono ?_); rintro e w4 ⟨he, q4, hw4⟩; obtain rfl := he; rw [HF.out, HA.out]; have HB4 := Lib.hid (by subst hw4; exact below_drewN HB3.out q4 : Below w.heap.size w w4); have HO4 := Lib.hid (by subst hw4; exact HO3.out : w4.ownsRow w.heap.size 37 2 (.slice (some ⟨g, 0, none⟩) 16 c3) 16 (rowsV l)); have hs4 : g < w4.heap.size := (by subst hw4; exact hsg); clear hw4; have c1 := (HB4.out.cell hB).trans Hc.out.2; have hB2 := Nat.lt_of_lt_of_le hB HB4.out.size; obtain ⟨k0, k1, j0, j1, _⟩ := own_cells HO4.out HI.out; have HO5 := Lib.hid (own_refs HO4.out HI.out (x + 1)); simp only at k0 k1; simp only [fndV, Option.getD_some, Option.isSome_some]))
    go_ret3
    exact hands3_own HP.out (by rw [List.length_set, Hn.out]) HO5.out (HB4.out.setCell (p := ⟨g, i * 2 + 1, none⟩) hg4 _)

set_option maxHeartbeats 800000 in
theorem rret_none (l : List Rw) (A : Option Addr) (c a : Nat) (w : World) (hn : l.length = 16) (hr : Rd w w.heap.size A (rowsV l)) (hR : Right l) (hf : fnd l a = none) :
    Calls Try.prog 14 #[.slice A 16 c, .int .u16 (a : Int)] w fun e w' => Hands3 w (retP l a) e w' := by
  obtain ⟨B, o, rfl, hB, hcc⟩ : ∃ B o, A = some ⟨B, o, none⟩ ∧ B < w.heap.size ∧ ∀ (i : Nat) r, l[i]? = some r → w.cell? ⟨B, o + i * 2, none⟩ = some (.int .u16 (r.lab : Int)) ∧ w.cell? ⟨B, o + i * 2 + 1, none⟩ = some (.int .i64 r.refs) := by
    rcases rd_rows hr with h | h
    · subst h; simp at hn
    · exact h
  have Hn := Lib.hid hn
  have Hr := Lib.hid hr
  have Hc := Lib.hid hcc
  have hb := rightB_yes hR
  have HF := Lib.hid (fndP_yes hR a)
  have HA := Lib.hid hf
  have HL := Lib.hid (fun h => retP_full hR hf h)
  have HM := Lib.hid (fun i h => retP_new (i := i) hR hf h)
  clear hn hr hR hf hcc
  go_enter Try.func14, Try.ntmps14
  go_wp2_with (first
    | (go_at_call 18; (with_reducible refine (rright_all l _ 16 c _ _ Hn.out Hr.out).mono ?_); rintro e w1 ⟨he, q1, hw1⟩; obtain rfl := he; rw [hb]; subst hw1)
    | (at_builtin; refine wpList_fresh _ rfl (.tmp 14) (.tmp 15) rfl _ rfl rfl _ 16 c l rfl Hn.out (Hr.out.drewN _) (by decide) ?_; intro v3 w3 hown3 hb3; obtain ⟨g, c3, hv3, hg3⟩ := own16 hown3; subst hv3; have HB3 := Lib.hid ((below_drewN (Below.refl _ _) q1).trans hb3 : Below w.heap.size w w3); have HO3 := Lib.hid (show w3.ownsRow w.heap.size 37 2 (.slice (some ⟨g, 0, none⟩) 16 c3) 16 (rowsV l) from hown3); have hg4 : w.heap.size ≤ g := hg3; have hsg : g < w3.heap.size := (hown3.lt g rfl).2; clear hb3 hown3 hg3)
    | (go_at_call 12; (with_reducible refine (rfind_any l _ 16 c a _ _ Hn.out (Hr.out.below HB3.out) (by omega)).mono ?_); rintro e w4 ⟨he, q4, hw4⟩; obtain rfl := he; rw [HF.out, HA.out]; have HB4 := Lib.hid (by subst hw4; exact below_drewN HB3.out q4 : Below w.heap.size w w4); have HO4 := Lib.hid (by subst hw4; exact HO3.out : w4.ownsRow w.heap.size 37 2 (.slice (some ⟨g, 0, none⟩) 16 c3) 16 (rowsV l)); have hs4 : g < w4.heap.size := (by subst hw4; exact hsg); clear hw4; have hB2 := Nat.lt_of_lt_of_le hB HB4.out.size; simp only [fndV, Option.getD_none, Option.isSome_none]))
  go_loop [10] (fun i => ∃ j : Nat, j ≤ 16 ∧ i = .int .i64 (j : Int) ∧ Hid (∀ (k : Nat) s, k < j → l[k]? = some s → s.refs ≠ 0)) (fun i => 16 - (intOf i).toNat)
  case atStart => exact ⟨0, Nat.zero_le _, rfl, Lib.hid (fun k s hk => by omega)⟩
  case round =>
    obtain ⟨j, hj, rfl, Hf⟩ := hrel
    by_cases hlt : j < 16
    · obtain ⟨⟨b, x⟩, hrj⟩ : ∃ r, l[j]? = some r := ⟨_, List.getElem?_eq_getElem (by rw [Hn.out]; exact hlt)⟩
      obtain ⟨_, c1⟩ := Hc.out j ⟨b, x⟩ hrj
      replace c1 := (HB4.out.cell hB).trans c1
      simp only at c1
      have HJ := Lib.hid hrj
      have hji : (j : Int) < 16 := by omega
      clear hrj
      by_cases hx : x = 0
      · subst hx
        have hfa : freeAt l = some j := by
          obtain ⟨h1, h2⟩ := List.getElem?_eq_some_iff.1 HJ.out
          refine List.findIdx?_eq_some_iff_getElem.2 ⟨h1, by rw [h2]; rfl, fun k hk => ?_⟩
          have := Hf.out k _ hk (List.getElem?_eq_getElem (by omega))
          simpa [free] using this
        have HP := Lib.hid (HM.out j hfa)
        obtain ⟨k0, k1, j0, j1, _⟩ := own_cells HO4.out HJ.out
        simp only at k0 k1
        have HO5 := Lib.hid (own_row HO4.out (i := j) (by rw [Hn.out]; exact hlt) a 1)
        clear hfa
        go_wp2
        go_ret3
        exact hands3_own HP.out (by rw [List.length_set, Hn.out]) HO5.out ((HB4.out.setCell (p := ⟨g, j * 2, none⟩) hg4 _).setCell (p := ⟨g, j * 2 + 1, none⟩) hg4 _)
      · have g0 : (x == 0) = false := by simp [hx]
        have Hf2 : Hid (∀ (k : Nat) s, k < j + 1 → l[k]? = some s → s.refs ≠ 0) := Lib.hid fun k s hk hs => by
          by_cases e : k = j
          · subst e
            rw [HJ.out] at hs
            injection hs with hs
            subst hs
            exact hx
          · exact Hf.out k s (by omega) hs
        go_wp2
        go_round
        case rel => exact ⟨j + 1, by omega, by go_num, Hf2⟩
        case measure => simp [intOf]; omega
    · obtain rfl : j = 16 := by omega
      have hfa : freeAt l = none := by
        refine List.findIdx?_eq_none_iff.2 fun r hr => ?_
        obtain ⟨k, hk, rfl⟩ := List.getElem_of_mem hr
        have := Hf.out k _ (by rw [← Hn.out]; exact hk) (List.getElem?_eq_getElem hk)
        simpa [free] using this
      have HP := Lib.hid (HL.out hfa)
      clear hfa
      go_wp2
      go_ret3
      exact hands3_nil HP.out HB4.out

/-- The document's Retain. -/
theorem rret_any (l : List Rw) (A : Option Addr) (n c a : Nat) (w : World) (hn : l.length = n) (hr : Rd w w.heap.size A (rowsV l)) :
    Calls Try.prog 14 #[.slice A n c, .int .u16 (a : Int)] w fun e w' => Hands3 w (retP l a) e w' := by
  by_cases hR : Right l
  · have h16 := hR.len
    rw [hn] at h16
    subst h16
    cases hf : fnd l a with
    | none => exact rret_none l A c a w hn hr hR hf
    | some i => exact rret_found l A c a i w hn hr hR hf
  · exact rret_no l A n c a w hn hr hR

set_option maxHeartbeats 800000 in
theorem rrel_no (l : List Rw) (A : Option Addr) (n c : Nat) (row : Int) (w : World) (hn : l.length = n) (hr : Rd w w.heap.size A (rowsV l)) (hR : ¬ Right l) :
    Calls Try.prog 16 #[.slice A n c, .int .i64 row] w fun e w' => Hands2 w (relP l row) e w' := by
  have Hn := Lib.hid hn
  have Hr := Lib.hid hr
  have hb := rightB_no hR
  have HP := Lib.hid (relP_no hR row)
  clear hn hr hR
  go_enter Try.func16, Try.ntmps16
  go_wp2_with (go_at_call 18; (with_reducible refine (rright_all l _ n c _ _ Hn.out Hr.out).mono ?_); rintro e w1 ⟨he, q1, hw1⟩; obtain rfl := he; rw [hb]; subst hw1)
  go_ret2
  exact hands2_nil HP.out (below_drewN (Below.refl _ _) _)
set_option maxHeartbeats 800000 in
theorem rrel_out (l : List Rw) (A : Option Addr) (c : Nat) (row : Int) (w : World) (hn : l.length = 16) (hr : Rd w w.heap.size A (rowsV l)) (hR : Right l) (h : ¬ (0 ≤ row ∧ row < 16)) :
    Calls Try.prog 16 #[.slice A 16 c, .int .i64 row] w fun e w' => Hands2 w (relP l row) e w' := by
  have Hn := Lib.hid hn
  have Hr := Lib.hid hr
  have hb := rightB_yes hR
  have HP := Lib.hid (relP_out (l := l) h)
  clear hn hr hR
  by_cases h1 : row < 0
  · clear h
    go_enter Try.func16, Try.ntmps16
    go_wp2_with (go_at_call 18; (with_reducible refine (rright_all l _ 16 c _ _ Hn.out Hr.out).mono ?_); rintro e w1 ⟨he, q1, hw1⟩; obtain rfl := he; rw [hb]; subst hw1)
    go_ret2
    exact hands2_nil HP.out (below_drewN (Below.refl _ _) _)
  · have h2 : 16 ≤ row := by omega
    clear h
    go_enter Try.func16, Try.ntmps16
    go_wp2_with (go_at_call 18; (with_reducible refine (rright_all l _ 16 c _ _ Hn.out Hr.out).mono ?_); rintro e w1 ⟨he, q1, hw1⟩; obtain rfl := he; rw [hb]; subst hw1)
    go_ret2
    exact hands2_nil HP.out (below_drewN (Below.refl _ _) _)

set_option maxHeartbeats 800000 in
theorem rrel_free (l : List Rw) (A : Option Addr) (c i b : Nat) (w : World) (hn : l.length = 16) (hr : Rd w w.heap.size A (rowsV l)) (hR : Right l) (hri : l[i]? = some ⟨b, 0⟩) :
    Calls Try.prog 16 #[.slice A 16 c, .int .i64 (i : Int)] w fun e w' => Hands2 w (relP l (i : Int)) e w' := by
  obtain ⟨B, o, rfl, hB, hcc⟩ : ∃ B o, A = some ⟨B, o, none⟩ ∧ B < w.heap.size ∧ (w.cell? ⟨B, o + i * 2, none⟩ = some (.int .u16 (b : Int)) ∧ w.cell? ⟨B, o + i * 2 + 1, none⟩ = some (.int .i64 0)) := rd_row hr hri
  obtain ⟨c0, c1⟩ := hcc
  have hi : i < 16 := by rw [← hn]; exact (List.getElem?_eq_some_iff.1 hri).1
  have hi0 : (0 : Int) ≤ (i : Int) := Int.natCast_nonneg _
  have hii : (i : Int) < 16 := by omega
  have Hn := Lib.hid hn
  have Hr := Lib.hid hr
  have hb := rightB_yes hR
  have HP := Lib.hid (relP_free hR hri rfl)
  clear hn hr hR hri
  go_enter Try.func16, Try.ntmps16
  go_wp2_with (go_at_call 18; (with_reducible refine (rright_all l _ 16 c _ _ Hn.out Hr.out).mono ?_); rintro e w1 ⟨he, q1, hw1⟩; obtain rfl := he; rw [hb]; subst hw1)
  go_ret2
  exact hands2_nil HP.out (below_drewN (Below.refl _ _) _)

set_option maxHeartbeats 800000 in
theorem rrel_one (l : List Rw) (A : Option Addr) (c i b : Nat) (w : World) (hn : l.length = 16) (hr : Rd w w.heap.size A (rowsV l)) (hR : Right l) (hri : l[i]? = some ⟨b, 1⟩) :
    Calls Try.prog 16 #[.slice A 16 c, .int .i64 (i : Int)] w fun e w' => Hands2 w (relP l (i : Int)) e w' := by
  have hhi := fits_hi (hR.fits i _ hri)
  simp only at hhi
  obtain ⟨B, o, rfl, hB, hcc⟩ : ∃ B o, A = some ⟨B, o, none⟩ ∧ B < w.heap.size ∧ (w.cell? ⟨B, o + i * 2, none⟩ = some (.int .u16 (b : Int)) ∧ w.cell? ⟨B, o + i * 2 + 1, none⟩ = some (.int .i64 1)) := rd_row hr hri
  obtain ⟨c0, c1⟩ := hcc
  have hi : i < 16 := by rw [← hn]; exact (List.getElem?_eq_some_iff.1 hri).1
  have hi0 : (0 : Int) ≤ (i : Int) := Int.natCast_nonneg _
  have hii : (i : Int) < 16 := by omega
  have Hn := Lib.hid hn
  have Hr := Lib.hid hr
  have hb := rightB_yes hR
  have HP := Lib.hid ((relP_yes hR hri (by show (1 : Int) ≠ 0; decide)).trans (by rfl : _ = (⟨l.set i .z, 0, 0⟩ : Res)))
  have HI := Lib.hid hri
  clear hn hr hR hri
  go_enter Try.func16, Try.ntmps16
  go_wp2_with (first
    | (go_at_call 18; (with_reducible refine (rright_all l _ 16 c _ _ Hn.out Hr.out).mono ?_); rintro e w1 ⟨he, q1, hw1⟩; obtain rfl := he; rw [hb]; subst hw1)
    | (at_builtin; refine wpList_fresh _ rfl (.tmp 26) (.tmp 27) rfl _ rfl rfl _ 16 c l rfl Hn.out (Hr.out.drewN _) (by decide) ?_; intro v3 w3 hown3 hb3; obtain ⟨g, c3, hv3, hg3⟩ := own16 hown3; subst hv3; have HB3 := Lib.hid ((below_drewN (Below.refl _ _) q1).trans hb3 : Below w.heap.size w w3); have HO3 := Lib.hid (show w3.ownsRow w.heap.size 37 2 (.slice (some ⟨g, 0, none⟩) 16 c3) 16 (rowsV l) from hown3); have hg4 : w.heap.size ≤ g := hg3; have hsg : g < w3.heap.size := (hown3.lt g rfl).2; obtain ⟨k0, k1, j0, j1, _⟩ := own_cells HO3.out HI.out; simp only at k0 k1; have HO5 := Lib.hid (own_refs HO3.out HI.out 0); clear hb3 hown3 hg3))
  go_ret2
  exact hands2_own HP.out (by rw [List.length_set, Hn.out]) (own_zero HO5.out (by rw [Hn.out]; exact hi)) ((HB3.out.setCell (p := ⟨g, i * 2 + 1, none⟩) hg4 _).setCell (p := ⟨g, i * 2, none⟩) hg4 _)

set_option maxHeartbeats 800000 in
theorem rrel_more (l : List Rw) (A : Option Addr) (c i b : Nat) (x : Int) (w : World) (hn : l.length = 16) (hr : Rd w w.heap.size A (rowsV l)) (hR : Right l) (hri : l[i]? = some ⟨b, x⟩) (h1 : 1 < x) :
    Calls Try.prog 16 #[.slice A 16 c, .int .i64 (i : Int)] w fun e w' => Hands2 w (relP l (i : Int)) e w' := by
  have hhi := fits_hi (hR.fits i _ hri)
  simp only at hhi
  obtain ⟨B, o, rfl, hB, hcc⟩ : ∃ B o, A = some ⟨B, o, none⟩ ∧ B < w.heap.size ∧ (w.cell? ⟨B, o + i * 2, none⟩ = some (.int .u16 (b : Int)) ∧ w.cell? ⟨B, o + i * 2 + 1, none⟩ = some (.int .i64 x)) := rd_row hr hri
  obtain ⟨c0, c1⟩ := hcc
  have hi : i < 16 := by rw [← hn]; exact (List.getElem?_eq_some_iff.1 hri).1
  have hi0 : (0 : Int) ≤ (i : Int) := Int.natCast_nonneg _
  have hii : (i : Int) < 16 := by omega
  have Hn := Lib.hid hn
  have Hr := Lib.hid hr
  have hb := rightB_yes hR
  have HP := Lib.hid ((relP_yes hR hri (by show x ≠ 0; omega)).trans (by unfold Rw.less; rw [if_neg (by show ¬ x = 1; omega)] : _ = (⟨l.set i ⟨b, x - 1⟩, 0, 0⟩ : Res)))
  have HI := Lib.hid hri
  clear hn hr hR hri
  have g0 : (x == 0) = false := by simp; omega
  have g1 : (x - 1 == 0) = false := by simp; omega
  have g2 : IntKind.i64.wrap (x - 1) = x - 1 := by rw [IntKind.wrap_i64]; omega
  go_enter Try.func16, Try.ntmps16
  go_wp2_with (first
    | (go_at_call 18; (with_reducible refine (rright_all l _ 16 c _ _ Hn.out Hr.out).mono ?_); rintro e w1 ⟨he, q1, hw1⟩; obtain rfl := he; rw [hb]; subst hw1)
    | (at_builtin; refine wpList_fresh _ rfl (.tmp 26) (.tmp 27) rfl _ rfl rfl _ 16 c l rfl Hn.out (Hr.out.drewN _) (by decide) ?_; intro v3 w3 hown3 hb3; obtain ⟨g, c3, hv3, hg3⟩ := own16 hown3; subst hv3; have HB3 := Lib.hid ((below_drewN (Below.refl _ _) q1).trans hb3 : Below w.heap.size w w3); have HO3 := Lib.hid (show w3.ownsRow w.heap.size 37 2 (.slice (some ⟨g, 0, none⟩) 16 c3) 16 (rowsV l) from hown3); have hg4 : w.heap.size ≤ g := hg3; have hsg : g < w3.heap.size := (hown3.lt g rfl).2; obtain ⟨k0, k1, j0, j1, _⟩ := own_cells HO3.out HI.out; simp only at k0 k1; have HO5 := Lib.hid (own_refs HO3.out HI.out (x - 1)); clear hb3 hown3 hg3))
  go_ret2
  exact hands2_own HP.out (by rw [List.length_set, Hn.out]) HO5.out (HB3.out.setCell (p := ⟨g, i * 2 + 1, none⟩) hg4 _)

/-- The document's Release. -/
theorem rrel_any (l : List Rw) (A : Option Addr) (n c : Nat) (row : Int) (w : World) (hn : l.length = n) (hr : Rd w w.heap.size A (rowsV l)) :
    Calls Try.prog 16 #[.slice A n c, .int .i64 row] w fun e w' => Hands2 w (relP l row) e w' := by
  by_cases hR : Right l
  · have h16 := hR.len
    rw [hn] at h16
    subst h16
    by_cases h : 0 ≤ row ∧ row < 16
    · obtain ⟨i, rfl⟩ : ∃ i : Nat, row = (i : Int) := ⟨row.toNat, by omega⟩
      obtain ⟨⟨b, x⟩, hri⟩ : ∃ r, l[i]? = some r := ⟨_, List.getElem?_eq_getElem (by omega)⟩
      have hlo := fits_lo (hR.fits i _ hri)
      simp only at hlo
      rcases Int.lt_trichotomy x 1 with hx | rfl | hx
      · obtain rfl : x = 0 := by omega
        exact rrel_free l A c i b w hn hr hR hri
      · exact rrel_one l A c i b w hn hr hR hri
      · exact rrel_more l A c i b x w hn hr hR hri hx
    · exact rrel_out l A c row w hn hr hR h
  · exact rrel_no l A n c row w hn hr hR
end Go.Proofs.Ytdecllllcoflbaa.Intern
