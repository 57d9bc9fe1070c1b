/-
  The document's Retain and Release.
-/
import Derived.Test.YtcjkbmmjpkghlaaGreatQInternA
import Derived.Laws.StructEq
import Derived.Test.YtcjkbmmjpkghlaaGreatQF
namespace Go.Proofs.YtcjkbmmjpkghlaaGreat.Intern
open Go.RowKit

theorem given_own {w w' : World} {v : Value} {m : List Rw} (hm : m.length = 16) (ho : w'.ownsRow w.heap.size 68 2 v 16 (rowsV m)) (hb : Below w.heap.size w w') : Given w w' v m := ⟨by rw [hm]; exact ho, hb⟩
theorem hands3_own {w w' : World} {r : Res} {m : List Rw} {i : Nat} {v : Value} (hr : r = ⟨m, i, 0⟩) (hm : m.length = 16) (ho : w'.ownsRow w.heap.size 68 2 v 16 (rowsV m)) (hb : Below w.heap.size w w') :
    Hands3 w r (.returned (.tuple #[v, .int .i64 (i : Int), .int .i64 0])) w' := by
  subst hr
  exact ⟨_, rfl, given_own hm ho hb⟩
theorem hands2_own {w w' : World} {r : Res} {m : List Rw} {v : Value} (hr : r = ⟨m, 0, 0⟩) (hm : m.length = 16) (ho : w'.ownsRow w.heap.size 68 2 v 16 (rowsV m)) (hb : Below w.heap.size w w') :
    Hands2 w r (.returned (.tuple #[v, .int .i64 0])) w' := by
  subst hr
  exact ⟨_, rfl, given_own hm ho hb⟩
/-- A label that is struck behind refs that are 0. -/
theorem own_zero {w : World} {base g c i b : Nat} {l : List Rw} (h : w.ownsRow base 68 2 (.slice (some ⟨g, 0, none⟩) 16 c) 16 (rowsV (l.set i ⟨b, 0⟩))) (hi : i < l.length) :
    (w.setCell ⟨g, i * 2, none⟩ (.int .u16 0)).ownsRow base 68 2 (.slice (some ⟨g, 0, none⟩) 16 c) 16 (rowsV (l.set i .z)) := by
  have h1 := (h.stored (i * 2) (.int .u16 0)).1
  have e : (rowsV (l.set i ⟨b, 0⟩)).set (i * 2) (.int .u16 0) = rowsV (l.set i .z) := by
    rw [rowsV_set l i _ hi, rowsV_set l i _ hi, List.set_comm _ _ (by omega), List.set_set]
    rfl
  rw [e] at h1
  exact h1

set_option maxHeartbeats 800000 in
theorem rret_no (l : List Rw) (A : Option Addr) (n c a : Nat) (w : World) (hn : l.length = n) (hr : Rd w w.heap.size A (rowsV l)) (hR : ¬ Right l) :
    Calls Tryz.prog 132 #[.slice A n c, .int .u16 (a : Int)] w fun e w' => Hands3 w (retP l a) e w' := by
  have Hn := Lib.hid hn
  have Hr := Lib.hid hr
  have hb := rightB_no hR
  have HP := Lib.hid (retP_no hR a)
  clear hn hr hR
  go_enter Tryz.func132, Tryz.ntmps132
  go_wp2_with (go_at_call 182; (with_reducible refine (rright_all l _ n c _ _ Hn.out Hr.out).mono ?_); rintro e w1 ⟨he, q1, hw1⟩; obtain rfl := he; rw [hb]; subst hw1)
  go_ret3
  exact hands3_nil HP.out (below_drewN (Below.refl _ _) _)

set_option maxHeartbeats 800000 in
theorem rret_found (l : List Rw) (A : Option Addr) (c a i : Nat) (w : World) (hn : l.length = 16) (hr : Rd w w.heap.size A (rowsV l)) (hR : Right l) (hf : fnd l a = some i) :
    Calls Tryz.prog 132 #[.slice A 16 c, .int .u16 (a : Int)] w fun e w' => Hands3 w (retP l a) e w' := by
  obtain ⟨⟨b, x⟩, hri, hx0, hba, _⟩ := fnd_some hf
  simp only at hx0 hba
  subst hba
  have hlo := fits_lo (hR.fits i _ hri)
  have hhi := fits_hi (hR.fits i _ hri)
  simp only at hlo hhi
  obtain ⟨B, o, rfl, hB, hcc⟩ : ∃ B o, A = some ⟨B, o, none⟩ ∧ B < w.heap.size ∧ (w.cell? ⟨B, o + i * 2, none⟩ = some (.int .u16 (b : Int)) ∧ w.cell? ⟨B, o + i * 2 + 1, none⟩ = some (.int .i64 x)) := rd_row hr hri
  have hi : i < 16 := by rw [← hn]; exact (List.getElem?_eq_some_iff.1 hri).1
  have hii : (i : Int) < 16 := by omega
  have Hn := Lib.hid hn
  have Hr := Lib.hid hr
  have Hc := Lib.hid hcc
  have hb := rightB_yes hR
  have HF := Lib.hid (fndP_yes hR b)
  have HA := Lib.hid hf
  have HI := Lib.hid hri
  have HL := Lib.hid (fun h => retP_long hR hf hri h)
  have HM := Lib.hid (fun h => retP_more hR hf hri h)
  clear hn hr hR hf hri hcc
  by_cases hx : x = 65535
  · have HP := Lib.hid (HL.out hx)
    clear HL HM
    subst hx
    go_enter Tryz.func132, Tryz.ntmps132
    go_wp2_with (first
      | (go_at_call 182; (with_reducible refine (rright_all l _ 16 c _ _ Hn.out Hr.out).mono ?_); rintro e w1 ⟨he, q1, hw1⟩; obtain rfl := he; rw [hb]; subst hw1)
      | (at_builtin; refine wpList_fresh _ rfl (.tmp 14) (.tmp 15) rfl _ rfl rfl _ 16 c l rfl Hn.out (Hr.out.drewN _) (by decide) ?_; intro v3 w3 hown3 hb3; obtain ⟨g, c3, hv3, hg3⟩ := own16 hown3; subst hv3; have HB3 := Lib.hid ((below_drewN (Below.refl _ _) q1).trans hb3 : Below w.heap.size w w3); have HO3 := Lib.hid (show w3.ownsRow w.heap.size 68 2 (.slice (some ⟨g, 0, none⟩) 16 c3) 16 (rowsV l) from hown3); have hg4 : w.heap.size ≤ g := hg3; have hsg : g < w3.heap.size := (hown3.lt g rfl).2; clear hb3 hown3 hg3)
      | (go_at_call 129; (with_reducible refine (rfind_any l _ 16 c b _ _ Hn.out (Hr.out.below HB3.out) (by omega)).mono ?_); rintro e w4 ⟨he, q4, hw4⟩; obtain rfl := he; rw [HF.out, HA.out]; have HB4 := Lib.hid (by subst hw4; exact below_drewN HB3.out q4 : Below w.heap.size w w4); have HO4 := Lib.hid (by subst hw4; exact HO3.out : w4.ownsRow w.heap.size 68 2 (.slice (some ⟨g, 0, none⟩) 16 c3) 16 (rowsV l)); have hs4 : g < w4.heap.size := (by subst hw4; exact hsg); clear hw4; have c1 := (HB4.out.cell hB).trans Hc.out.2; have hB2 := Nat.lt_of_lt_of_le hB HB4.out.size; simp only [fndV, Option.getD_some, Option.isSome_some]))
    go_ret3
    exact hands3_nil HP.out HB4.out
  · have HP := Lib.hid (HM.out hx)
    have g0 : (x == 65535) = false := by simp [hx]
    have g1 : IntKind.i64.wrap (x + 1) = x + 1 := by rw [IntKind.wrap_i64]; omega
    clear HL HM
    go_enter Tryz.func132, Tryz.ntmps132
    go_wp2_with (first
      | (go_at_call 182; (with_reducible refine (rright_all l _ 16 c _ _ Hn.out Hr.out).mono ?_); rintro e w1 ⟨he, q1, hw1⟩; obtain rfl := he; rw [hb]; subst hw1)
      | (at_builtin; refine wpList_fresh _ rfl (.tmp 14) (.tmp 15) rfl _ rfl rfl _ 16 c l rfl Hn.out (Hr.out.drewN _) (by decide) ?_; intro v3 w3 hown3 hb3; obtain ⟨g, c3, hv3, hg3⟩ := own16 hown3; subst hv3; have HB3 := Lib.hid ((below_drewN (Below.refl _ _) q1).trans hb3 : Below w.heap.size w w3); have HO3 := Lib.hid (show w3.ownsRow w.heap.size 68 2 (.slice (some ⟨g, 0, none⟩) 16 c3) 16 (rowsV l) from hown3); have hg4 : w.heap.size ≤ g := hg3; have hsg : g < w3.heap.size := (hown3.lt g rfl).2; clear hb3 hown3 hg3)
      | (go_at_call 129; (with_reducible refine (rfind_any l _ 16 c b _ _ Hn.out (Hr.out.below HB3.out) (by omega)).mono ?_); rintro e w4 ⟨he, q4, hw4⟩; obtain rfl := he; rw [HF.out, HA.out]; have HB4 := Lib.hid (by subst hw4; exact below_drewN HB3.out q4 : Below w.heap.size w w4); have HO4 := Lib.hid (by subst hw4; exact HO3.out : w4.ownsRow w.heap.size 68 2 (.slice (some ⟨g, 0, none⟩) 16 c3) 16 (rowsV l)); have hs4 : g < w4.heap.size := (by subst hw4; exact hsg); clear hw4; have c1 := (HB4.out.cell hB).trans Hc.out.2; have hB2 := Nat.lt_of_lt_of_le hB HB4.out.size; obtain ⟨k0, k1, j0, j1, _⟩ := own_cells HO4.out HI.out; have HO5 := Lib.hid (own_refs HO4.out HI.out (x + 1)); simp only at k0 k1; simp only [fndV, Option.getD_some, Option.isSome_some]))
    go_ret3
    exact hands3_own HP.out (by rw [List.length_set, Hn.out]) HO5.out (HB4.out.setCell (p := ⟨g, i * 2 + 1, none⟩) hg4 _)

set_option maxHeartbeats 800000 in
theorem rret_none (l : List Rw) (A : Option Addr) (c a : Nat) (w : World) (hn : l.length = 16) (hr : Rd w w.heap.size A (rowsV l)) (hR : Right l) (hf : fnd l a = none) :
    Calls Tryz.prog 132 #[.slice A 16 c, .int .u16 (a : Int)] w fun e w' => Hands3 w (retP l a) e w' := by
  obtain ⟨B, o, rfl, hB, hcc⟩ : ∃ B o, A = some ⟨B, o, none⟩ ∧ B < w.heap.size ∧ ∀ (i : Nat) r, l[i]? = some r → w.cell? ⟨B, o + i * 2, none⟩ = some (.int .u16 (r.lab : Int)) ∧ w.cell? ⟨B, o + i * 2 + 1, none⟩ = some (.int .i64 r.refs) := by
    rcases rd_rows hr with h | h
    · subst h; simp at hn
    · exact h
  have Hn := Lib.hid hn
  have Hr := Lib.hid hr
  have Hc := Lib.hid hcc
  have hb := rightB_yes hR
  have HF := Lib.hid (fndP_yes hR a)
  have HA := Lib.hid hf
  have HL := Lib.hid (fun h => retP_full hR hf h)
  have HM := Lib.hid (fun i h => retP_new (i := i) hR hf h)
  clear hn hr hR hf hcc
  go_enter Tryz.func132, Tryz.ntmps132
  go_wp2_with (first
    | (go_at_call 182; (with_reducible refine (rright_all l _ 16 c _ _ Hn.out Hr.out).mono ?_); rintro e w1 ⟨he, q1, hw1⟩; obtain rfl := he; rw [hb]; subst hw1)
    | (at_builtin; refine wpList_fresh _ rfl (.tmp 14) (.tmp 15) rfl _ rfl rfl _ 16 c l rfl Hn.out (Hr.out.drewN _) (by decide) ?_; intro v3 w3 hown3 hb3; obtain ⟨g, c3, hv3, hg3⟩ := own16 hown3; subst hv3; have HB3 := Lib.hid ((below_drewN (Below.refl _ _) q1).trans hb3 : Below w.heap.size w w3); have HO3 := Lib.hid (show w3.ownsRow w.heap.size 68 2 (.slice (some ⟨g, 0, none⟩) 16 c3) 16 (rowsV l) from hown3); have hg4 : w.heap.size ≤ g := hg3; have hsg : g < w3.heap.size := (hown3.lt g rfl).2; clear hb3 hown3 hg3)
    | (go_at_call 129; (with_reducible refine (rfind_any l _ 16 c a _ _ Hn.out (Hr.out.below HB3.out) (by omega)).mono ?_); rintro e w4 ⟨he, q4, hw4⟩; obtain rfl := he; rw [HF.out, HA.out]; have HB4 := Lib.hid (by subst hw4; exact below_drewN HB3.out q4 : Below w.heap.size w w4); have HO4 := Lib.hid (by subst hw4; exact HO3.out : w4.ownsRow w.heap.size 68 2 (.slice (some ⟨g, 0, none⟩) 16 c3) 16 (rowsV l)); have hs4 : g < w4.heap.size := (by subst hw4; exact hsg); clear hw4; have hB2 := Nat.lt_of_lt_of_le hB HB4.out.size; simp only [fndV, Option.getD_none, Option.isSome_none]))
  go_loop [10] (fun i => ∃ j : Nat, j ≤ 16 ∧ i = .int .i64 (j : Int) ∧ Hid (∀ (k : Nat) s, k < j → l[k]? = some s → s.refs ≠ 0)) (fun i => 16 - (intOf i).toNat)
  case atStart => exact ⟨0, Nat.zero_le _, rfl, Lib.hid (fun k s hk => by omega)⟩
  case round =>
    obtain ⟨j, hj, rfl, Hf⟩ := hrel
    by_cases hlt : j < 16
    · obtain ⟨⟨b, x⟩, hrj⟩ : ∃ r, l[j]? = some r := ⟨_, List.getElem?_eq_getElem (by rw [Hn.out]; exact hlt)⟩
      obtain ⟨_, c1⟩ := Hc.out j ⟨b, x⟩ hrj
      replace c1 := (HB4.out.cell hB).trans c1
      simp only at c1
      have HJ := Lib.hid hrj
      have hji : (j : Int) < 16 := by omega
      clear hrj
      by_cases hx : x = 0
      · subst hx
        have hfa : freeAt l = some j := by
          obtain ⟨h1, h2⟩ := List.getElem?_eq_some_iff.1 HJ.out
          refine List.findIdx?_eq_some_iff_getElem.2 ⟨h1, by rw [h2]; rfl, fun k hk => ?_⟩
          have := Hf.out k _ hk (List.getElem?_eq_getElem (by omega))
          simpa [free] using this
        have HP := Lib.hid (HM.out j hfa)
        obtain ⟨k0, k1, j0, j1, _⟩ := own_cells HO4.out HJ.out
        simp only at k0 k1
        have HO5 := Lib.hid (own_row HO4.out (i := j) (by rw [Hn.out]; exact hlt) a 1)
        clear hfa
        go_wp2
        go_ret3
        exact hands3_own HP.out (by rw [List.length_set, Hn.out]) HO5.out ((HB4.out.setCell (p := ⟨g, j * 2, none⟩) hg4 _).setCell (p := ⟨g, j * 2 + 1, none⟩) hg4 _)
      · have g0 : (x == 0) = false := by simp [hx]
        have Hf2 : Hid (∀ (k : Nat) s, k < j + 1 → l[k]? = some s → s.refs ≠ 0) := Lib.hid fun k s hk hs => by
          by_cases e : k = j
          · subst e
            rw [HJ.out] at hs
            injection hs with hs
            subst hs
            exact hx
          · exact Hf.out k s (by omega) hs
        go_wp2
        go_round
        case rel => exact ⟨j + 1, by omega, by go_num, Hf2⟩
        case measure => simp [intOf]; omega
    · obtain rfl : j = 16 := by omega
      have hfa : freeAt l = none := by
        refine List.findIdx?_eq_none_iff.2 fun r hr => ?_
        obtain ⟨k, hk, rfl⟩ := List.getElem_of_mem hr
        have := Hf.out k _ (by rw [← Hn.out]; exact hk) (List.getElem?_eq_getElem hk)
        simpa [free] using this
      have HP := Lib.hid (HL.out hfa)
      clear hfa
      go_wp2
      go_ret3
      exact hands3_nil HP.out HB4.out

/-- The document's Retain. -/
theorem rret_any (l : List Rw) (A : Option Addr) (n c a : Nat) (w : World) (hn : l.length = n) (hr : Rd w w.heap.size A (rowsV l)) :
    Calls Tryz.prog 132 #[.slice A n c, .int .u16 (a : Int)] w fun e w' => Hands3 w (retP l a) e w' := by
  by_cases hR : Right l
  · have h16 := hR.len
    rw [hn] at h16
    subst h16
    cases hf : fnd l a with
    | none => exact rret_none l A c a w hn hr hR hf
    | some i => exact rret_found l A c a i w hn hr hR hf
  · exact rret_no l A n c a w hn hr hR

set_option maxHeartbeats 800000 in
theorem rrel_no (l : List Rw) (A : Option Addr) (n c : Nat) (row : Int) (w : World) (hn : l.length = n) (hr : Rd w w.heap.size A (rowsV l)) (hR : ¬ Right l) :
    Calls Tryz.prog 134 #[.slice A n c, .int .i64 row] w fun e w' => Hands2 w (relP l row) e w' := by
  have Hn := Lib.hid hn
  have Hr := Lib.hid hr
  have hb := rightB_no hR
  have HP := Lib.hid (relP_no hR row)
  clear hn hr hR
  go_enter Tryz.func134, Tryz.ntmps134
  go_wp2_with (go_at_call 182; (with_reducible refine (rright_all l _ n c _ _ Hn.out Hr.out).mono ?_); rintro e w1 ⟨he, q1, hw1⟩; obtain rfl := he; rw [hb]; subst hw1)
  go_ret2
  exact hands2_nil HP.out (below_drewN (Below.refl _ _) _)
set_option maxHeartbeats 800000 in
theorem rrel_out (l : List Rw) (A : Option Addr) (c : Nat) (row : Int) (w : World) (hn : l.length = 16) (hr : Rd w w.heap.size A (rowsV l)) (hR : Right l) (h : ¬ (0 ≤ row ∧ row < 16)) :
    Calls Tryz.prog 134 #[.slice A 16 c, .int .i64 row] w fun e w' => Hands2 w (relP l row) e w' := by
  have Hn := Lib.hid hn
  have Hr := Lib.hid hr
  have hb := rightB_yes hR
  have HP := Lib.hid (relP_out (l := l) h)
  clear hn hr hR
  by_cases h1 : row < 0
  · clear h
    go_enter Tryz.func134, Tryz.ntmps134
    go_wp2_with (go_at_call 182; (with_reducible refine (rright_all l _ 16 c _ _ Hn.out Hr.out).mono ?_); rintro e w1 ⟨he, q1, hw1⟩; obtain rfl := he; rw [hb]; subst hw1)
    go_ret2
    exact hands2_nil HP.out (below_drewN (Below.refl _ _) _)
  · have h2 : 16 ≤ row := by omega
    clear h
    go_enter Tryz.func134, Tryz.ntmps134
    go_wp2_with (go_at_call 182; (with_reducible refine (rright_all l _ 16 c _ _ Hn.out Hr.out).mono ?_); rintro e w1 ⟨he, q1, hw1⟩; obtain rfl := he; rw [hb]; subst hw1)
    go_ret2
    exact hands2_nil HP.out (below_drewN (Below.refl _ _) _)

set_option maxHeartbeats 800000 in
theorem rrel_free (l : List Rw) (A : Option Addr) (c i b : Nat) (w : World) (hn : l.length = 16) (hr : Rd w w.heap.size A (rowsV l)) (hR : Right l) (hri : l[i]? = some ⟨b, 0⟩) :
    Calls Tryz.prog 134 #[.slice A 16 c, .int .i64 (i : Int)] w fun e w' => Hands2 w (relP l (i : Int)) e w' := by
  obtain ⟨B, o, rfl, hB, hcc⟩ : ∃ B o, A = some ⟨B, o, none⟩ ∧ B < w.heap.size ∧ (w.cell? ⟨B, o + i * 2, none⟩ = some (.int .u16 (b : Int)) ∧ w.cell? ⟨B, o + i * 2 + 1, none⟩ = some (.int .i64 0)) := rd_row hr hri
  obtain ⟨c0, c1⟩ := hcc
  have hi : i < 16 := by rw [← hn]; exact (List.getElem?_eq_some_iff.1 hri).1
  have hi0 : (0 : Int) ≤ (i : Int) := Int.natCast_nonneg _
  have hii : (i : Int) < 16 := by omega
  have Hn := Lib.hid hn
  have Hr := Lib.hid hr
  have hb := rightB_yes hR
  have HP := Lib.hid (relP_free hR hri rfl)
  clear hn hr hR hri
  go_enter Tryz.func134, Tryz.ntmps134
  go_wp2_with (go_at_call 182; (with_reducible refine (rright_all l _ 16 c _ _ Hn.out Hr.out).mono ?_); rintro e w1 ⟨he, q1, hw1⟩; obtain rfl := he; rw [hb]; subst hw1)
  go_ret2
  exact hands2_nil HP.out (below_drewN (Below.refl _ _) _)

set_option maxHeartbeats 800000 in
theorem rrel_one (l : List Rw) (A : Option Addr) (c i b : Nat) (w : World) (hn : l.length = 16) (hr : Rd w w.heap.size A (rowsV l)) (hR : Right l) (hri : l[i]? = some ⟨b, 1⟩) :
    Calls Tryz.prog 134 #[.slice A 16 c, .int .i64 (i : Int)] w fun e w' => Hands2 w (relP l (i : Int)) e w' := by
  have hhi := fits_hi (hR.fits i _ hri)
  simp only at hhi
  obtain ⟨B, o, rfl, hB, hcc⟩ : ∃ B o, A = some ⟨B, o, none⟩ ∧ B < w.heap.size ∧ (w.cell? ⟨B, o + i * 2, none⟩ = some (.int .u16 (b : Int)) ∧ w.cell? ⟨B, o + i * 2 + 1, none⟩ = some (.int .i64 1)) := rd_row hr hri
  obtain ⟨c0, c1⟩ := hcc
  have hi : i < 16 := by rw [← hn]; exact (List.getElem?_eq_some_iff.1 hri).1
  have hi0 : (0 : Int) ≤ (i : Int) := Int.natCast_nonneg _
  have hii : (i : Int) < 16 := by omega
  have Hn := Lib.hid hn
  have Hr := Lib.hid hr
  have hb := rightB_yes hR
  have HP := Lib.hid ((relP_yes hR hri (by show (1 : Int) ≠ 0; decide)).trans (by rfl : _ = (⟨l.set i .z, 0, 0⟩ : Res)))
  have HI := Lib.hid hri
  clear hn hr hR hri
  go_enter Tryz.func134, Tryz.ntmps134
  go_wp2_with (first
    | (go_at_call 182; (with_reducible refine (rright_all l _ 16 c _ _ Hn.out Hr.out).mono ?_); rintro e w1 ⟨he, q1, hw1⟩; obtain rfl := he; rw [hb]; subst hw1)
    | (at_builtin; refine wpList_fresh _ rfl (.tmp 26) (.tmp 27) rfl _ rfl rfl _ 16 c l rfl Hn.out (Hr.out.drewN _) (by decide) ?_; intro v3 w3 hown3 hb3; obtain ⟨g, c3, hv3, hg3⟩ := own16 hown3; subst hv3; have HB3 := Lib.hid ((below_drewN (Below.refl _ _) q1).trans hb3 : Below w.heap.size w w3); have HO3 := Lib.hid (show w3.ownsRow w.heap.size 68 2 (.slice (some ⟨g, 0, none⟩) 16 c3) 16 (rowsV l) from hown3); have hg4 : w.heap.size ≤ g := hg3; have hsg : g < w3.heap.size := (hown3.lt g rfl).2; obtain ⟨k0, k1, j0, j1, _⟩ := own_cells HO3.out HI.out; simp only at k0 k1; have HO5 := Lib.hid (own_refs HO3.out HI.out 0); clear hb3 hown3 hg3))
  go_ret2
  exact hands2_own HP.out (by rw [List.length_set, Hn.out]) (own_zero HO5.out (by rw [Hn.out]; exact hi)) ((HB3.out.setCell (p := ⟨g, i * 2 + 1, none⟩) hg4 _).setCell (p := ⟨g, i * 2, none⟩) hg4 _)

set_option maxHeartbeats 800000 in
theorem rrel_more (l : List Rw) (A : Option Addr) (c i b : Nat) (x : Int) (w : World) (hn : l.length = 16) (hr : Rd w w.heap.size A (rowsV l)) (hR : Right l) (hri : l[i]? = some ⟨b, x⟩) (h1 : 1 < x) :
    Calls Tryz.prog 134 #[.slice A 16 c, .int .i64 (i : Int)] w fun e w' => Hands2 w (relP l (i : Int)) e w' := by
  have hhi := fits_hi (hR.fits i _ hri)
  simp only at hhi
  obtain ⟨B, o, rfl, hB, hcc⟩ : ∃ B o, A = some ⟨B, o, none⟩ ∧ B < w.heap.size ∧ (w.cell? ⟨B, o + i * 2, none⟩ = some (.int .u16 (b : Int)) ∧ w.cell? ⟨B, o + i * 2 + 1, none⟩ = some (.int .i64 x)) := rd_row hr hri
  obtain ⟨c0, c1⟩ := hcc
  have hi : i < 16 := by rw [← hn]; exact (List.getElem?_eq_some_iff.1 hri).1
  have hi0 : (0 : Int) ≤ (i : Int) := Int.natCast_nonneg _
  have hii : (i : Int) < 16 := by omega
  have Hn := Lib.hid hn
  have Hr := Lib.hid hr
  have hb := rightB_yes hR
  have HP := Lib.hid ((relP_yes hR hri (by show x ≠ 0; omega)).trans (by unfold Rw.less; rw [if_neg (by show ¬ x = 1; omega)] : _ = (⟨l.set i ⟨b, x - 1⟩, 0, 0⟩ : Res)))
  have HI := Lib.hid hri
  clear hn hr hR hri
  have g0 : (x == 0) = false := by simp; omega
  have g1 : (x - 1 == 0) = false := by simp; omega
  have g2 : IntKind.i64.wrap (x - 1) = x - 1 := by rw [IntKind.wrap_i64]; omega
  go_enter Tryz.func134, Tryz.ntmps134
  go_wp2_with (first
    | (go_at_call 182; (with_reducible refine (rright_all l _ 16 c _ _ Hn.out Hr.out).mono ?_); rintro e w1 ⟨he, q1, hw1⟩; obtain rfl := he; rw [hb]; subst hw1)
    | (at_builtin; refine wpList_fresh _ rfl (.tmp 26) (.tmp 27) rfl _ rfl rfl _ 16 c l rfl Hn.out (Hr.out.drewN _) (by decide) ?_; intro v3 w3 hown3 hb3; obtain ⟨g, c3, hv3, hg3⟩ := own16 hown3; subst hv3; have HB3 := Lib.hid ((below_drewN (Below.refl _ _) q1).trans hb3 : Below w.heap.size w w3); have HO3 := Lib.hid (show w3.ownsRow w.heap.size 68 2 (.slice (some ⟨g, 0, none⟩) 16 c3) 16 (rowsV l) from hown3); have hg4 : w.heap.size ≤ g := hg3; have hsg : g < w3.heap.size := (hown3.lt g rfl).2; obtain ⟨k0, k1, j0, j1, _⟩ := own_cells HO3.out HI.out; simp only at k0 k1; have HO5 := Lib.hid (own_refs HO3.out HI.out (x - 1)); clear hb3 hown3 hg3))
  go_ret2
  exact hands2_own HP.out (by rw [List.length_set, Hn.out]) HO5.out (HB3.out.setCell (p := ⟨g, i * 2 + 1, none⟩) hg4 _)

/-- The document's Release. -/
theorem rrel_any (l : List Rw) (A : Option Addr) (n c : Nat) (row : Int) (w : World) (hn : l.length = n) (hr : Rd w w.heap.size A (rowsV l)) :
    Calls Tryz.prog 134 #[.slice A n c, .int .i64 row] w fun e w' => Hands2 w (relP l row) e w' := by
  by_cases hR : Right l
  · have h16 := hR.len
    rw [hn] at h16
    subst h16
    by_cases h : 0 ≤ row ∧ row < 16
    · obtain ⟨i, rfl⟩ : ∃ i : Nat, row = (i : Int) := ⟨row.toNat, by omega⟩
      obtain ⟨⟨b, x⟩, hri⟩ : ∃ r, l[i]? = some r := ⟨_, List.getElem?_eq_getElem (by omega)⟩
      have hlo := fits_lo (hR.fits i _ hri)
      simp only at hlo
      rcases Int.lt_trichotomy x 1 with hx | rfl | hx
      · obtain rfl : x = 0 := by omega
        exact rrel_free l A c i b w hn hr hR hri
      · exact rrel_one l A c i b w hn hr hR hri
      · exact rrel_more l A c i b x w hn hr hR hri hx
    · exact rrel_out l A c row w hn hr hR h
  · exact rrel_no l A n c row w hn hr hR
end Go.Proofs.YtcjkbmmjpkghlaaGreat.Intern

/-
  Rows compared; what the statements' own helpers do: free rows, the first twenty, whether two lists are the same.
-/
namespace Go.Proofs.YtcjkbmmjpkghlaaGreat.Intern
open Go.RowKit

theorem under37 : Tryz.prog.underlying 68 = some (.struct (Tryz.prog.fieldsOf 68)) := by kernel_rfl
theorem guard37 : Tryz.prog.eqGuardType Tryz.prog.depth 68 = false := by kernel_rfl
theorem guard_at37 (x y : Operand) (xs ys : Array Value) (op : BinOp) (W : World) : (eqGuard op 68 x y (.agg xs) (.agg ys)).run Tryz.prog W = .ok () W := run_eqGuard_agg W op 68 x y xs ys guard37
theorem part_u16 (xs : Array Value) (k : Nat) (x : Int) (h : xs[k]? = some (.int .u16 x)) (W : World) : (part 36 xs k).run Tryz.prog W = .ok (.int .u16 x) W := by
  unfold part
  simp [h, go_sem]
theorem part_i64 (xs : Array Value) (k : Nat) (x : Int) (h : xs[k]? = some (.int .i64 x)) (W : World) : (part 3 xs k).run Tryz.prog W = .ok (.int .i64 x) W := by
  unfold part
  simp [h, go_sem]
theorem two_of {α : Type} {l : List α} (h : l.length = 2) : ∃ a b, l = [a, b] := by
  match l, h with
  | [a, b], _ => exact ⟨a, b, rfl⟩
/-- Like rows are like. -/
theorem row_nsame (a : Nat) (x : Int) (W : World) : (binOp .neq 68 (.agg #[.int .u16 (a : Int), .int .i64 x]) (.agg #[.int .u16 (a : Int), .int .i64 x])).run Tryz.prog W = .ok (.bool false) W := by
  have hl : (Tryz.prog.fieldsOf 68).toList.length = 2 := by kernel_rfl
  have hm : (Tryz.prog.fieldsOf 68).toList.map (fun f => (f.name == "_", f.type, f.offset)) = [(false, 36, 0), (false, 3, 1)] := by kernel_rfl
  obtain ⟨f0, f1, e⟩ := two_of hl
  rw [e] at hm
  simp only [List.map_cons, List.map_nil, List.cons.injEq, Prod.mk.injEq, and_true] at hm
  obtain ⟨⟨n0, t0, o0⟩, n1, t1, o1⟩ := hm
  have n0 : f0.name ≠ "_" := by simpa using n0
  have n1 : f1.name ≠ "_" := by simpa using n1
  have h : (Op.eqFields 9999 #[.int .u16 (a : Int), .int .i64 x] #[.int .u16 (a : Int), .int .i64 x] (Tryz.prog.fieldsOf 68).toList).run Tryz.prog W = .ok true W := by
    rw [e]
    have p0 := part_u16 #[.int .u16 (a : Int), .int .i64 x] 0 a rfl W
    have p1 := part_i64 #[.int .u16 (a : Int), .int .i64 x] 1 x rfl W
    have e0 := run_equalIn_int (P := Tryz.prog) W 9998 36 .u16 .u16 (a : Int) (a : Int) Tryz.underlying36
    have e1 := run_equalIn_int (P := Tryz.prog) W 9998 3 .i64 .i64 x x Tryz.underlying3
    simp only [Op.eqFields, n0, n1, t0, t1, o0, o1, ne_eq, not_false_eq_true, if_true]
    simp [p0, p1, e0, e1]
  rw [run_neq_struct, run_equalIn_agg W 9999 68 _ _ under37 (by kernel_rfl), h]
  rfl

set_option maxHeartbeats 800000 in
theorem same_true (l : List Rw) (A A2 : Option Addr) (n c c2 : Nat) (B B2 : Nat) (w : World) (hn : l.length = n) (hr : Rd w B A (rowsV l)) (hr2 : Rd w B2 A2 (rowsV l)) (hm : n ≤ 9223372036854775807) :
    Calls Tryz.prog 136 #[.slice A n c, .slice A2 n c2] w fun e w' => e = .returned (.bool true) ∧ ∃ q, w' = w.drewN q := by
  have Hn := Lib.hid hn
  have h0 : l = [] → n = 0 := fun h => by rw [← hn, h]; rfl
  clear hn
  have hnn : ((n : Int) != (n : Int)) = false := by simp
  rcases rd_rows hr with h | ⟨b1, o1, rfl, _, hcc1⟩
  · obtain rfl := h0 h
    clear h h0 hr hr2
    go_enter Tryz.func136, Tryz.ntmps136
    go_wp2
    go_loop [5] (fun i => i = .int .i64 0) (fun _ => 0)
    case atStart => exact rfl
    case round =>
      obtain rfl := hrel
      go_wp2
      go_ret
      exact ⟨rfl, 0, rfl⟩
  rcases rd_rows hr2 with h | ⟨b2, o2, rfl, _, hcc2⟩
  · obtain rfl := h0 h
    clear h h0 hr hr2 hcc1
    go_enter Tryz.func136, Tryz.ntmps136
    go_wp2
    go_loop [5] (fun i => i = .int .i64 0) (fun _ => 0)
    case atStart => exact rfl
    case round =>
      obtain rfl := hrel
      go_wp2
      go_ret
      exact ⟨rfl, 0, rfl⟩
  have Hc1 := Lib.hid hcc1
  have Hc2 := Lib.hid hcc2
  have hg := guard_at37
  have hs := row_nsame
  clear hcc1 hcc2 hr hr2 h0
  go_enter Tryz.func136, Tryz.ntmps136
  go_wp2
  go_loopw [5] (fun i wr => ∃ k : Nat, k ≤ n ∧ i = .int .i64 (k : Int) ∧ ∃ q, wr = w.drewN q) (fun i _ => n - (intOf i).toNat)
  case atStart => exact ⟨0, Nat.zero_le _, rfl, 0, rfl⟩
  case round =>
    obtain ⟨k, hk, rfl, q, rfl⟩ := hrel
    by_cases hlt : k < n
    · have h1 : k < l.length := by rw [Hn.out]; exact hlt
      obtain ⟨c0, c1⟩ := Hc1.out k _ (List.getElem?_eq_getElem h1)
      obtain ⟨d0, d1⟩ := Hc2.out k _ (List.getElem?_eq_getElem h1)
      generalize l[k] = r at c0 c1 d0 d1
      obtain ⟨a, x⟩ := r
      have hk0 : (0 : Int) ≤ (k : Int) := Int.natCast_nonneg _
      have hk1 : (k : Int) < (n : Int) := by omega
      go_wp2
      go_quiet (fail)
      go_wp2
      go_roundw
      case rel => exact ⟨k + 1, by omega, by go_num, q + nq, by first | rfl | rw [World.drewN_drewN]⟩
      case measure => simp [intOf]; omega
    · go_wp2
      go_ret
      exact ⟨rfl, q, rfl⟩
end Go.Proofs.YtcjkbmmjpkghlaaGreat.Intern

/-
  Rows as bytes: package intern's Lay and the document's.
-/
namespace Go.Proofs.YtcjkbmmjpkghlaaGreat.Intern
open Go.RowKit

/-- The numbers of rows, one behind the other. -/
def words : List Rw → List Nat
  | [] => []
  | r :: l => r.lab :: r.refs.toNat :: words l
theorem length_words (l : List Rw) : (words l).length = l.length * 2 := by
  induction l with
  | nil => rfl
  | cons r l ih => simp [words, ih]; omega
theorem words_append (l m : List Rw) : words (l ++ m) = words l ++ words m := by
  induction l with
  | nil => rfl
  | cons r l ih => simp [words, ih]
theorem words_step {l : List Rw} {j : Nat} {r : Rw} (h : l[j]? = some r) : words (l.take (j + 1)) = words (l.take j) ++ [r.lab, r.refs.toNat] := by
  obtain ⟨hj, rfl⟩ := List.getElem?_eq_some_iff.1 h
  rw [List.take_succ_eq_append_getElem hj, words_append]
  rfl
theorem mem_words {l : List Rw} {x : Nat} (h : x ∈ words l) : ∃ r ∈ l, x = r.lab ∨ x = r.refs.toNat := by
  induction l with
  | nil => simp [words] at h
  | cons r l ih =>
    simp only [words, List.mem_cons] at h
    rcases h with h | h | h
    · exact ⟨r, by simp, .inl h⟩
    · exact ⟨r, by simp, .inr h⟩
    · obtain ⟨s, h1, h2⟩ := ih h
      exact ⟨s, by simp [h1], h2⟩
/-- Valid rows' bytes. -/
def bytesOf (l : List Rw) : List UInt8 := layl 2 (words l)
theorem length_bytesOf (l : List Rw) : (bytesOf l).length = l.length * 4 := by
  unfold bytesOf
  rw [length_layl, length_words]; omega
theorem words_small {l : List Rw} (h : Right l) (ho : Oks l) : ∀ x ∈ words l, x < 65536 := by
  intro x hx
  obtain ⟨r, hr, h1⟩ := mem_words hx
  obtain ⟨i, hi⟩ := List.mem_iff_getElem?.1 hr
  have h2 := fits_lo (h.fits i r hi)
  have h3 := fits_hi (h.fits i r hi)
  have h4 := (ho r hr).lab
  omega

/-- Bytes, and an error, that a call hands back in memory of their own. -/
def HandsB (w : World) (bs : List UInt8) (err : Nat) (e : Ending) (w' : World) : Prop :=
  ∃ v, e = .returned (.tuple #[v, .int .i64 (err : Int)]) ∧ w'.ownsRow w.heap.size 5 1 v bs.length (bytesV bs) ∧ Below w.heap.size w w'
noncomputable def layR (l : List Rw) : List UInt8 × Nat := if rightB l then (bytesOf l, 0) else ([], 1)
theorem layR_yes {l : List Rw} (h : Right l) : layR l = (bytesOf l, 0) := by unfold layR; rw [rightB_yes h]; rfl
theorem layR_no {l : List Rw} (h : ¬ Right l) : layR l = ([], 1) := by unfold layR; rw [rightB_no h]; rfl

theorem rd_new2 {w W : World} (a b : Value) (e : TypeId) (g : Nat) (hg : g = W.heap.size) (hw : w = W.alloc (.cells #[a, b] e)) : Rd w (g + 1) (some ⟨g, 0, none⟩) [a, b] := by
  subst hg
  subst hw
  exact .inr ⟨W.heap.size, 0, rfl, Nat.lt_succ_self _, fun i v hv => by
    rw [Nat.zero_add, World.cell?_alloc_at _ _ _ _ rfl]
    simpa using hv⟩

theorem lay2 (L : List Nat) (A : Option Addr) (n c : Nat) (w : World) (hn : L.length = n) (hr : Rd w w.heap.size A (numsV L)) (hL : ∀ x ∈ L, x < 65536) (hm : n ≤ 2000) :
    Calls Tryz.prog 154 #[.int .i64 2, .slice A n c] w fun e w' => ∃ v, e = .returned (.tuple #[v, .int .i64 0]) ∧ Made w (layl 2 L) v w' :=
  lay_ok L A n c 2 w hn hr (by omega) (by omega) (fun x hx => Nat.lt_trans (hL x hx) (by decide)) (fun x hx => by
    have := hL x hx
    simp only [fitB, decide_eq_true_eq]
    omega) (by omega)

set_option maxHeartbeats 1600000 in
theorem lay_yes (l : List Rw) (A : Option Addr) (c : Nat) (w : World) (hn : l.length = 16) (hr : Rd w w.heap.size A (rowsV l)) (hR : Right l) (ho : Oks l) :
    Calls Tryz.prog 104 #[.slice A 16 c] w fun e w' => HandsB w (bytesOf l) 0 e w' := by
  obtain ⟨B, o, rfl, hB, hcc⟩ : ∃ B o, A = some ⟨B, o, none⟩ ∧ B < w.heap.size ∧ ∀ (i : Nat) r, l[i]? = some r → w.cell? ⟨B, o + i * 2, none⟩ = some (.int .u16 (r.lab : Int)) ∧ w.cell? ⟨B, o + i * 2 + 1, none⟩ = some (.int .i64 r.refs) := by
    rcases rd_rows hr with h | h
    · subst h; simp at hn
    · exact h
  have Hn := Lib.hid hn
  have Hr := Lib.hid hr
  have Hc := Lib.hid hcc
  have hb := rightB_yes hR
  have HS := Lib.hid (words_small hR ho)
  have HF := Lib.hid (fun i (b : Nat) x (h : l[i]? = some (⟨b, x⟩ : Rw)) => (⟨(ho _ (List.mem_of_getElem? h)).lab, fits_lo (hR.fits i _ h), fits_hi (hR.fits i _ h)⟩ : b < 65536 ∧ 0 ≤ x ∧ x ≤ 65535))
  clear hn hr hR ho hcc
  go_enter Tryz.func104, Tryz.ntmps104
  go_wp2_with (go_at_call 32; (with_reducible refine (right_all l _ 16 c _ Hn.out Hr.out).mono ?_); rintro e w1 ⟨he, hb1⟩; obtain rfl := he; rw [hb]; have HB1 := Lib.hid hb1; clear hb1)
  go_loopw [4, 6, 12] (fun v _ i wr => ∃ j : Nat, j ≤ 16 ∧ i = .int .i64 (j : Int) ∧ wr.ownsRow w.heap.size 41 1 v (j * 2) (numsV (words (l.take j))) ∧ Below w.heap.size w wr) (fun _ _ i _ => 16 - (intOf i).toNat)
  case atStart => exact ⟨0, Nat.zero_le _, rfl, World.ownsRow_nil _ _ _ _, HB1.out⟩
  case round =>
    obtain ⟨j, hj, rfl, hown, hbel⟩ := hrel
    by_cases hlt : j < 16
    · obtain ⟨⟨b, x⟩, hrj⟩ : ∃ r, l[j]? = some r := ⟨_, List.getElem?_eq_getElem (by rw [Hn.out]; exact hlt)⟩
      obtain ⟨hb6, hx0, hx1⟩ := HF.out j b x hrj
      obtain ⟨m, rfl⟩ : ∃ m : Nat, x = (m : Int) := ⟨x.toNat, by omega⟩
      obtain ⟨c0, c1⟩ := Hc.out j ⟨b, (m : Int)⟩ hrj
      replace c0 := (hbel.cell hB).trans c0
      replace c1 := (hbel.cell hB).trans c1
      simp only at c0 c1
      have hs := Nat.lt_of_lt_of_le hB hbel.size
      have HW := Lib.hid (words_step hrj)
      have e1 : IntKind.u64.wrap (b : Int) = (b : Int) := by rw [IntKind.wrap_u64]; omega
      have e2 : IntKind.u64.wrap (m : Int) = (m : Int) := by rw [IntKind.wrap_u64]; omega
      have hsz := hbel.size
      have HO := Lib.hid hown
      have HB := Lib.hid hbel
      clear hrj hown hbel
      go_wp2_with (at_builtin; refine wpList_app23 _ rfl (.tmp 16) (.tmp 23) rfl w.heap.size _ (j * 2) (words (l.take j)) rfl ((HO.out.alloc _).alloc _) (wr.heap.size + 1 + 1) _ 2 2 [b, m] rfl rfl (rd_new2 (numV b) (numV m) 41 (wr.heap.size + 1) ?c1 rfl) ?c3 ?c4 ?_)
      case c3 => omega
      case c4 => omega
      intro v' w3 hown' hg'
      have hm2 : ((m : Int)).toNat = m := Int.toNat_natCast m
      have HO3 := Lib.hid (show w3.ownsRow w.heap.size 41 1 v' ((j + 1) * 2) (numsV (words (l.take (j + 1)))) by
        rw [HW.out, hm2, Nat.add_mul]; exact hown')
      have HB3 := Lib.hid (((HB.out.alloc hsz _).alloc (by simp; omega) _).grown hg' (by simp; omega) (fun k hk => (HO.out.lt k hk).1))
      clear hown' hg'
      go_wp2
      go_roundw
      case rel => exact ⟨j + 1, by omega, by go_num, HO3.out, HB3.out⟩
      case measure => simp [intOf]; omega
    · obtain rfl : j = 16 := by omega
      have e : l.take 16 = l := List.take_of_length_le (by rw [Hn.out]; exact Nat.le_refl _)
      rw [e] at hown
      obtain ⟨_, A2, c2, rfl, _, _, hr2⟩ := own_rd hown
      have HR2 := Lib.hid hr2
      have hlw : (words l).length = 32 := by rw [length_words, Hn.out]
      have HLW := Lib.hid hlw
      have HB := Lib.hid hbel
      clear hown hbel hr2 hlw
      go_wp2_with (go_at_call 154; (with_reducible refine (lay2 (words l) A2 32 c2 _ HLW.out HR2.out HS.out (by omega)).mono ?_); rintro e w4 ⟨v4, he, hm4⟩; obtain rfl := he; have HM := Lib.hid hm4; clear hm4)
      go_ret2
      exact ⟨_, rfl, own_mono HM.out.1 HB.out.size, HB.out.trans (HM.out.2.mono HB.out.size)⟩

set_option maxHeartbeats 800000 in
theorem lay_no (l : List Rw) (A : Option Addr) (n c : Nat) (w : World) (hn : l.length = n) (hr : Rd w w.heap.size A (rowsV l)) (hR : ¬ Right l) :
    Calls Tryz.prog 104 #[.slice A n c] w fun e w' => HandsB w [] 1 e w' := by
  have Hn := Lib.hid hn
  have Hr := Lib.hid hr
  have hb := rightB_no hR
  clear hn hr hR
  go_enter Tryz.func104, Tryz.ntmps104
  go_wp2_with (go_at_call 32; (with_reducible refine (right_all l _ n c _ Hn.out Hr.out).mono ?_); rintro e w1 ⟨he, hb1⟩; obtain rfl := he; rw [hb]; have HB1 := Lib.hid hb1; clear hb1)
  go_ret2
  exact ⟨_, rfl, World.ownsRow_nil _ _ _ _, HB1.out⟩
/-- Lay. -/
theorem lay_rows (l : List Rw) (A : Option Addr) (n c : Nat) (w : World) (hn : l.length = n) (hr : Rd w w.heap.size A (rowsV l)) (ho : Oks l) :
    Calls Tryz.prog 104 #[.slice A n c] w fun e w' => HandsB w (layR l).1 (layR l).2 e w' := by
  by_cases hR : Right l
  · have h16 := hR.len
    rw [hn] at h16
    subst h16
    rw [layR_yes hR]
    exact lay_yes l A c w hn hr hR ho
  · rw [layR_no hR]
    exact lay_no l A n c w hn hr hR

theorem bytes_step {l : List Rw} {j b m : Nat} (h : l[j]? = some ⟨b, (m : Int)⟩) : bytesOf (l.take (j + 1)) = (bytesOf (l.take j) ++ digs b 2) ++ digs m 2 := by
  unfold bytesOf
  rw [words_step h, layl_append]
  simp [layl]

end Go.Proofs.YtcjkbmmjpkghlaaGreat.Intern

/-
  Rows out of bytes: package intern's Take and the document's.
-/
namespace Go.Proofs.YtcjkbmmjpkghlaaGreat.Intern
open Go.RowKit

/-- The rows that numbers stand for. -/
def rowsOf (ws : List Nat) : List Rw := (List.range 16).map fun i => ⟨ws.getD (2 * i) 0, (ws.getD (2 * i + 1) 0 : Nat)⟩
theorem length_rowsOf (ws : List Nat) : (rowsOf ws).length = 16 := by simp [rowsOf]
theorem rowsOf_at {ws : List Nat} {j a m : Nat} (hj : j < 16) (h0 : ws[2 * j]? = some a) (h1 : ws[2 * j + 1]? = some m) : (rowsOf ws)[j]? = some ⟨a, (m : Int)⟩ := by
  simp [rowsOf, hj, List.getD_eq_getElem?_getD, h0, h1]
/-- Rows that are being filled. -/
def partR (T : List Rw) (j : Nat) : List Rw := T.take j ++ List.replicate (16 - j) .z
theorem partR_zero (T : List Rw) : partR T 0 = frees := by simp [partR, frees]
theorem partR_all {T : List Rw} (h : T.length = 16) : partR T 16 = T := by
  unfold partR
  rw [List.take_of_length_le (by omega)]
  simp
theorem length_partR {T : List Rw} (h : T.length = 16) {j : Nat} (hj : j ≤ 16) : (partR T j).length = 16 := by simp [partR]; omega
theorem partR_step {T : List Rw} (h : T.length = 16) {j : Nat} {r : Rw} (hr : T[j]? = some r) : (partR T j).set j r = partR T (j + 1) := by
  obtain ⟨hj, rfl⟩ := List.getElem?_eq_some_iff.1 hr
  have e : 16 - j = (16 - (j + 1)) + 1 := by omega
  have hl : (T.take j).length = j := by simp; omega
  unfold partR
  rw [e, List.replicate_succ, List.set_append_right _ _ (by omega), hl, List.take_succ_eq_append_getElem hj]
  simp only [Nat.sub_self, List.set_cons_zero, List.append_assoc, List.cons_append, List.nil_append]
noncomputable def takR (bs : List UInt8) : Res :=
  if bs.length = 64 then if rightB (rowsOf (takel 2 bs)) then ⟨rowsOf (takel 2 bs), 0, 0⟩ else .bad 100 else .bad 100
theorem takR_len {bs : List UInt8} (h : bs.length ≠ 64) : takR bs = .bad 100 := by unfold takR; rw [if_neg h]
theorem takR_yes {bs : List UInt8} (h : bs.length = 64) (hR : Right (rowsOf (takel 2 bs))) : takR bs = ⟨rowsOf (takel 2 bs), 0, 0⟩ := by unfold takR; rw [if_pos h, rightB_yes hR]; rfl
theorem takR_no {bs : List UInt8} (h : bs.length = 64) (hR : ¬ Right (rowsOf (takel 2 bs))) : takR bs = .bad 100 := by unfold takR; rw [if_pos h, rightB_no hR]; rfl

theorem take_len (A : Option Addr) (n c : Nat) (w : World) (h : n ≠ 64) (bs : List UInt8) (hb : bs.length = n) : Calls Tryz.prog 122 #[.slice A n c] w fun e w' => Hands2 w (takR bs) e w' := by
  have hP := takR_len (bs := bs) (by omega)
  have hn : ((n : Int) != 64) = true := by simp; omega
  have HP := Lib.hid hP
  clear hP
  go_enter Tryz.func122, Tryz.ntmps122
  go_wp2
  go_ret2
  exact hands2_nil HP.out (Below.refl _ _)
theorem take2 (l : List UInt8) (A : Option Addr) (c : Nat) (w : World) (hn : l.length = 64) (hr : Rd w w.heap.size A (bytesV l)) (hc : 64 ≤ c) :
    Calls Tryz.prog 175 #[.int .i64 2, .slice A 64 c] w fun e w' => ∃ v, e = .returned (.tuple #[v, .int .i64 0]) ∧ MadeN w (takel 2 l) v w' :=
  take_ok l A 64 c 32 2 w hn hr hc (by omega) (by omega) (by omega) (by omega)
theorem takel_small (l : List UInt8) : ∀ x ∈ takel 2 l, x < 65536 := by
  intro x hx
  simp only [takel, List.mem_map, List.mem_range] at hx
  obtain ⟨k, _, rfl⟩ := hx
  have h1 := le_lt ((l.drop (k * 2)).take 2)
  have h2 : ((l.drop (k * 2)).take 2).length ≤ 2 := by rw [List.length_take]; omega
  have h3 : 256 ^ ((l.drop (k * 2)).take 2).length ≤ 256 ^ 2 := Nat.pow_le_pow_right (by omega) h2
  have h4 : (256 : Nat) ^ 2 = 65536 := rfl
  omega
theorem rd_nums {w : World} {B : Nat} {A : Option Addr} {l : List Nat} (h : Rd w B A (numsV l)) (hl : l ≠ []) : ∃ b o, A = some ⟨b, o, none⟩ ∧ b < B ∧ ∀ (i : Nat) x, l[i]? = some x → w.cell? ⟨b, o + i, none⟩ = some (.int .u64 (x : Int)) := by
  rcases h with h | ⟨b, o, h1, h2, h3⟩
  · exact absurd (by simpa [numsV] using h) hl
  · exact ⟨b, o, h1, h2, fun i x hx => h3 i _ (by simp [numsV, numV, hx])⟩

theorem below_drew {B : Nat} {a w : World} (h : Below B a w) : Below B a w.drew := ⟨h.os, h.tape, h.output, h.size, h.block⟩
theorem rd_block {w : World} {g : Nat} {l : List Rw} (h : Bk w g 68 (rowsV l)) : Rd w w.heap.size (some ⟨g, 0, none⟩) (rowsV l) := by
  have := h.rd (rowsV l).length 0
  rwa [List.drop_zero, List.take_length] at this

set_option maxHeartbeats 1600000 in
theorem take_rows (l : List UInt8) (A : Option Addr) (c : Nat) (w : World) (hn : l.length = 64) (hr : Rd w w.heap.size A (bytesV l)) (hc : 64 ≤ c) :
    Calls Tryz.prog 122 #[.slice A 64 c] w fun e w' => Hands2 w (takR l) e w' := by
  have hT : (takel 2 l).length = 32 := by rw [length_takel, hn]
  obtain ⟨T, hTe⟩ : ∃ T, T = rowsOf (takel 2 l) := ⟨_, rfl⟩
  have hTl : T.length = 16 := by rw [hTe]; exact length_rowsOf _
  have HY := Lib.hid (fun h => takR_yes hn (hTe ▸ h))
  have HN := Lib.hid (fun h => takR_no hn (hTe ▸ h))
  have HTl := Lib.hid hTl
  have HTe := Lib.hid hTe
  have HT := Lib.hid hT
  have HS := Lib.hid (takel_small l)
  have Hn := Lib.hid hn
  have Hr := Lib.hid hr
  clear hT hTe hTl hn hr
  have hmk := make_rows
  go_enter Tryz.func122, Tryz.ntmps122
  go_wp2_with (go_at_call 175; (with_reducible refine (take2 l A c _ Hn.out Hr.out hc).mono ?_); rintro e w1 ⟨v1, he, hown1, hb1⟩; obtain rfl := he; rw [HT.out] at hown1; obtain ⟨_, A2, c2, hv1, _, _, hr2⟩ := own_rd hown1; subst hv1; have HR2 := Lib.hid hr2; have HB1 := Lib.hid hb1; clear hown1 hb1 hr2)
  have hne : takel 2 l ≠ [] := by intro h; have := HT.out; rw [h] at this; cases this
  obtain ⟨B, o, rfl, hB, hcc⟩ := rd_nums HR2.out hne
  have Hc := Lib.hid hcc
  clear hcc hne hmk
  have hs0 := HB1.out.size
  go_loopw [7, 19] (fun _ i wr => ∃ j : Nat, j ≤ 16 ∧ i = .int .i64 (j : Int) ∧ Bk wr w1.heap.size 68 (rowsV (partR T j)) ∧ Below w1.heap.size w1 wr) (fun _ i _ => 16 - (intOf i).toNat)
  case atStart => exact ⟨0, Nat.zero_le _, rfl, by rw [partR_zero]; exact Bk.new w1 68 _, alloc_below _ _⟩
  case round =>
    obtain ⟨j, hj, rfl, hk, hbel⟩ := hrel
    by_cases hlt : j < 16
    · obtain ⟨a, ha⟩ : ∃ a, (takel 2 l)[2 * j]? = some a := ⟨_, List.getElem?_eq_getElem (by rw [HT.out]; omega)⟩
      obtain ⟨m, hm⟩ : ∃ m, (takel 2 l)[2 * j + 1]? = some m := ⟨_, List.getElem?_eq_getElem (by rw [HT.out]; omega)⟩
      have ha6 := HS.out a (List.mem_of_getElem? ha)
      have hm6 := HS.out m (List.mem_of_getElem? hm)
      have c0 := (hbel.cell hB).trans (Hc.out _ a ha)
      have c1 := (hbel.cell hB).trans (Hc.out _ m hm)
      have hTj := rowsOf_at hlt ha hm
      rw [← HTe.out] at hTj
      have hkl := length_partR HTl.out hj
      have hset := (hk.set (j * 2) (.int .u16 (a : Int))).set (j * 2 + 1) (.int .i64 (m : Int))
      rw [← rowsV_set (partR T j) j ⟨a, (m : Int)⟩ (by omega), partR_step HTl.out hTj] at hset
      have hk1 := hk.cell (j * 2)
      have hk2 := hk.cell (j * 2 + 1)
      obtain ⟨u0, hu0⟩ : ∃ u, (rowsV (partR T j))[j * 2]? = some u := ⟨_, List.getElem?_eq_getElem (by rw [length_rowsV]; omega)⟩
      obtain ⟨u1, hu1⟩ : ∃ u, (rowsV (partR T j))[j * 2 + 1]? = some u := ⟨_, List.getElem?_eq_getElem (by rw [length_rowsV]; omega)⟩
      rw [hu0] at hk1
      rw [hu1] at hk2
      have f0 := hk.frozen (j * 2)
      have f1 := hk.frozen (j * 2 + 1)
      have hs := Nat.lt_of_lt_of_le hB hbel.size
      have hs1 := hk.lt
      have HK := Lib.hid hset
      have HB2 := Lib.hid ((hbel.setCell (p := ⟨w1.heap.size, j * 2, none⟩) (Nat.le_refl _) (.int .u16 (a : Int))).setCell (p := ⟨w1.heap.size, j * 2 + 1, none⟩) (Nat.le_refl _) (.int .i64 (m : Int)))
      have e1 : IntKind.u16.wrap (a : Int) = (a : Int) := by rw [IntKind.wrap_u16]; omega
      have e2 : IntKind.i64.wrap (m : Int) = (m : Int) := by rw [IntKind.wrap_i64]; omega
      have e3 : IntKind.i64.wrap (2 * (j : Int)) = ((2 * j : Nat) : Int) := by rw [IntKind.wrap_i64]; omega
      have e4 : IntKind.i64.wrap (((2 * j : Nat) : Int) + 1) = ((2 * j + 1 : Nat) : Int) := by rw [IntKind.wrap_i64]; omega
      have e5 : (0 : Int) ≤ (j : Int) := Int.natCast_nonneg _
      have e6 : (j : Int) < 16 := by omega
      have hne2 : B ≠ w1.heap.size := by omega
      clear ha hm hk hset hu0 hu1 hTj hbel
      go_wp2
      go_region
      have HK3 : Hid (Bk (((wr.setCell ⟨w1.heap.size, j * 2, none⟩ (.int .u16 (a : Int))).setCell ⟨w1.heap.size, j * 2 + 1, none⟩ (.int .i64 (m : Int))).drew) w1.heap.size 68 (rowsV (partR T (j + 1)))) := HK
      have HB3 := Lib.hid (below_drew HB2.out)
      go_wp2
      go_roundw
      case rel => exact ⟨j + 1, by omega, by go_num, HK3.out, HB3.out⟩
      case measure => simp [intOf]; omega
    · obtain rfl : j = 16 := by omega
      rw [partR_all HTl.out] at hk
      have HK := Lib.hid hk
      have HB := Lib.hid hbel
      have HW := Lib.hid (HB1.out.trans (hbel.mono hs0))
      clear hk hbel
      by_cases hR : Right T
      · have hb := rightB_yes hR
        have HP := Lib.hid (HY.out hR)
        clear hR HN HY
        go_wp2_with (go_at_call 32; (with_reducible refine (right_all T _ 16 16 _ HTl.out (rd_block HK.out)).mono ?_); rintro e w4 ⟨he, hb4⟩; obtain rfl := he; rw [hb]; have HB4 := Lib.hid hb4; clear hb4)
        go_ret2
        refine hands2_rows (m := T) (by rw [HP.out, HTe.out]) HTl.out hs0 ?_ (HW.out.trans (HB4.out.mono HW.out.size))
        exact HK.out.below HB4.out HK.out.lt
      · have hb := rightB_no hR
        have HP := Lib.hid (HN.out hR)
        clear hR HN HY
        go_wp2_with (go_at_call 32; (with_reducible refine (right_all T _ 16 16 _ HTl.out (rd_block HK.out)).mono ?_); rintro e w4 ⟨he, hb4⟩; obtain rfl := he; rw [hb]; have HB4 := Lib.hid hb4; clear hb4)
        go_ret2
        exact hands2_nil HP.out (HW.out.trans (HB4.out.mono HW.out.size))
/-- Take. -/
theorem take_any (l : List UInt8) (A : Option Addr) (n c : Nat) (w : World) (hn : l.length = n) (hr : Rd w w.heap.size A (bytesV l)) (hc : n ≤ c) :
    Calls Tryz.prog 122 #[.slice A n c] w fun e w' => Hands2 w (takR l) e w' := by
  by_cases h : n = 64
  · subst h
    exact take_rows l A c w hn hr hc
  · exact take_len A n c w h l hn

end Go.Proofs.YtcjkbmmjpkghlaaGreat.Intern

/-
  Rows of labels on paper: what was laid is taken, and what is taken is laid so.
-/
namespace Go.Proofs.YtcjkbmmjpkghlaaGreat.Intern
open Go.RowKit

theorem takel_cons (l : List UInt8) (m : Nat) (h : l.length = (m + 1) * 2) : takel 2 l = le (l.take 2) :: takel 2 (l.drop 2) := by
  have e1 : l.length / 2 = m + 1 := by omega
  have e2 : (l.drop 2).length / 2 = m := by rw [List.length_drop]; omega
  unfold takel
  rw [e1, e2, List.range_succ_eq_map, List.map_cons, List.map_map]
  congr 1
  apply List.map_congr_left
  intro k _
  show le ((l.drop ((k + 1) * 2)).take 2) = _
  rw [List.drop_drop]
  congr 3
  omega
theorem layl_takel (m : Nat) : ∀ l : List UInt8, l.length = m * 2 → layl 2 (takel 2 l) = l := by
  induction m with
  | zero =>
    intro l h
    obtain rfl : l = [] := List.eq_nil_of_length_eq_zero (by omega)
    rfl
  | succ m ih =>
    intro l h
    rw [takel_cons l m h]
    show digs (le (l.take 2)) 2 ++ layl 2 (takel 2 (l.drop 2)) = l
    have h2 : (l.take 2).length = 2 := by rw [List.length_take]; omega
    have := digs_le (l.take 2)
    rw [h2] at this
    rw [this, ih _ (by rw [List.length_drop]; omega), List.take_append_drop]

theorem words_at {l : List Rw} {i : Nat} {r : Rw} (h : l[i]? = some r) : (words l)[2 * i]? = some r.lab ∧ (words l)[2 * i + 1]? = some r.refs.toNat := by
  induction l generalizing i with
  | nil => simp at h
  | cons s l ih =>
    cases i with
    | zero =>
      obtain rfl : s = r := by simpa using h
      exact ⟨rfl, rfl⟩
    | succ i =>
      obtain ⟨h1, h2⟩ := ih (i := i) (by simpa using h)
      have e1 : 2 * (i + 1) = 2 * i + 1 + 1 := by omega
      rw [e1]
      exact ⟨h1, h2⟩
theorem rowsOf_words {l : List Rw} (h : Right l) : rowsOf (words l) = l := by
  apply List.ext_getElem?
  intro i
  by_cases hi : i < 16
  · obtain ⟨r, hr⟩ : ∃ r, l[i]? = some r := ⟨_, List.getElem?_eq_getElem (by rw [h.len]; exact hi)⟩
    obtain ⟨h1, h2⟩ := words_at hr
    rw [rowsOf_at hi h1 h2, hr]
    have := fits_lo (h.fits i r hr)
    congr 1
    cases r
    simp only at this ⊢
    congr 1
    omega
  · rw [List.getElem?_eq_none (by rw [length_rowsOf]; omega), List.getElem?_eq_none (by rw [h.len]; omega)]
theorem words_rowsOf {ws : List Nat} (h : ws.length = 32) : words (rowsOf ws) = ws := by
  apply List.ext_getElem?
  intro j
  by_cases hj : j < 32
  · have h0 : ∃ a, ws[2 * (j / 2)]? = some a := ⟨_, List.getElem?_eq_getElem (by omega)⟩
    have h1 : ∃ a, ws[2 * (j / 2) + 1]? = some a := ⟨_, List.getElem?_eq_getElem (by omega)⟩
    obtain ⟨a, h0⟩ := h0
    obtain ⟨m, h1⟩ := h1
    have hr := rowsOf_at (j := j / 2) (by omega) h0 h1
    obtain ⟨k0, k1⟩ := words_at hr
    rcases Nat.mod_two_eq_zero_or_one j with e | e
    · have e2 : 2 * (j / 2) = j := by omega
      rw [e2] at k0 h0
      rw [k0, h0]
    · have e2 : 2 * (j / 2) + 1 = j := by omega
      rw [e2] at k1 h1
      rw [k1, h1]
      simp
  · rw [List.getElem?_eq_none (by rw [length_words, length_rowsOf]; omega), List.getElem?_eq_none (by omega)]
/-- What was laid is taken. -/
theorem take_lay {l : List Rw} (h : Right l) (ho : Oks l) : takR (bytesOf l) = ⟨l, 0, 0⟩ := by
  have hb : (bytesOf l).length = 64 := by rw [length_bytesOf, h.len]
  have e : rowsOf (takel 2 (bytesOf l)) = l := by
    unfold bytesOf
    rw [takel_layl 2 (by omega) _ fun x hx => by
      have := words_small h ho x hx
      simp only [fitB, decide_eq_true_eq]
      omega]
    exact rowsOf_words h
  rw [takR_yes hb (by rw [e]; exact h), e]
/-- What is taken is laid so. -/
theorem lay_take {bs : List UInt8} (h : bs.length = 64) : bytesOf (rowsOf (takel 2 bs)) = bs := by
  unfold bytesOf
  rw [words_rowsOf (by rw [length_takel, h])]
  exact layl_takel 32 bs h
theorem oks_take (bs : List UInt8) : Oks (rowsOf (takel 2 bs)) := by
  intro r hr
  obtain ⟨i, hi⟩ := List.mem_iff_getElem?.1 hr
  have hl : i < 16 := by
    have := (List.getElem?_eq_some_iff.1 hi).1
    rwa [length_rowsOf] at this
  have hsm : ∀ k, (takel 2 bs).getD k 0 < 65536 := fun k => by
    rw [List.getD_eq_getElem?_getD]
    cases hk : (takel 2 bs)[k]? with
    | none => simp
    | some x => simpa using takel_small bs x (List.mem_of_getElem? hk)
  simp only [rowsOf, List.getElem?_map, List.getElem?_range hl, Option.map_some, Option.some.injEq] at hi
  subst hi
  refine ⟨hsm _, ?_, ?_⟩
  · show -9223372036854775808 ≤ ((_ : Nat) : Int); omega
  · have := hsm (2 * i + 1)
    show ((_ : Nat) : Int) ≤ 9223372036854775807; omega
theorem bytes_inj {l m : List Rw} (hl : Right l) (ol : Oks l) (hm : Right m) (om : Oks m) (h : bytesOf l = bytesOf m) : l = m := by
  have h1 := take_lay hl ol
  have h2 := take_lay hm om
  rw [h, h2] at h1
  injection h1 with h1
  exact h1.symm
theorem takR_some {bs : List UInt8} (h : (takR bs).err = 0) : bs.length = 64 ∧ Right (takR bs).rows ∧ Oks (takR bs).rows ∧ bytesOf (takR bs).rows = bs := by
  by_cases hl : bs.length = 64
  · by_cases hR : Right (rowsOf (takel 2 bs))
    · rw [takR_yes hl hR]
      exact ⟨hl, hR, oks_take bs, lay_take hl⟩
    · rw [takR_no hl hR] at h
      cases h
  · rw [takR_len hl] at h
    cases h
end Go.Proofs.YtcjkbmmjpkghlaaGreat.Intern
