/-
  Package meta: which sectors may be; lists of sectors compared by the library.
-/
import Derived.Test.YtcjkbmmjpkghlaaGreatQMetaX1
import Derived.Test.YtcjkbmmjpkghlaaGreatQSuper
import Derived.Test.YtcjkbmmjpkghlaaGreatQInodeB
namespace Go.Proofs.YtcjkbmmjpkghlaaGreat.Meta
open Go.Proofs.YtcjkbmmjpkghlaaGreat
open Go.RowKit

noncomputable def secB (G : Geo) (l : List (List UInt8)) : Bool := Inode.decB (G.Ok ∧ (l.length : Int) = 3 + G.i / 2 ∧ ∀ s ∈ l, s.length = 64)
theorem badS_no {l : List (List UInt8)} : l.any badS = false ↔ ∀ s ∈ l, s.length = 64 := by
  rw [List.any_eq_false]
  constructor
  · intro h x hx
    have := h x hx
    simpa [badS] using this
  · intro h x hx
    have := h x hx
    simp [badS, this]
set_option maxHeartbeats 1600000 in
theorem assec_any (j i g p : Int) (l : List (List UInt8)) (A : Option Addr) (n c : Nat) (L : List Sc) (w : World) (hn : l.length = n) (hs : SecsAt w w.heap.size A L l) (hm : n ≤ 1000000) :
    Calls Tryz.prog 121 #[.agg #[.int .i64 j, .int .i64 i, .int .i64 g, .int .i64 p], .slice A n c] w fun e w' => e = .returned (.bool (secB ⟨j, i, g, p⟩ l)) ∧ Below w.heap.size w w' := by
  have HS := Lib.hid hs
  have HW := Lib.hid (geo_box w j i g p)
  have hb0 := al_below w (.cells #[.int .i64 j, .int .i64 i, .int .i64 g, .int .i64 p] 29)
  have HB := Lib.hid hb0
  obtain ⟨g0, g1, g2, g3⟩ := four_cells HW.out
  obtain ⟨W, hW⟩ : ∃ W, W = w.alloc (.cells #[.int .i64 j, .int .i64 i, .int .i64 g, .int .i64 p] 29) := ⟨_, rfl⟩
  rw [← hW] at HW HB g0 g1 g2 g3
  have HWE := Lib.hid hW
  clear hb0 hs hW
  by_cases hv : Super.Valid j i g p
  rotate_left
  · have hr : secB ⟨j, i, g, p⟩ l = false := Inode.decB_no (fun h => hv h.1)
    rw [hr]
    have HV : Hid (∀ u : World, Calls Tryz.prog 98 #[.agg #[.int .i64 j, .int .i64 i, .int .i64 g, .int .i64 p]] u fun e w' => e = .returned (.bool false) ∧ Super.Boxed u j i g p w') := Lib.hid (fun u => Super.right_no hv u)
    clear hv hr hn
    go_enter Tryz.func121, Tryz.ntmps121
    go_upto_region 1 with fail
    rw [← HWE.out]
    go_wp2_with (go_at_call 98; (with_reducible refine (HV.out _).mono ?_); rintro e w1 ⟨he, hbx⟩; obtain rfl := he; have hb := hbx.below; replace HB := Lib.hid (HB.out.trans (hb.mono HB.out.size)); clear hb hbx)
    go_ret
    exact ⟨rfl, HB.out⟩
  have HV : Hid (∀ u : World, Calls Tryz.prog 98 #[.agg #[.int .i64 j, .int .i64 i, .int .i64 g, .int .i64 p]] u fun e w' => e = .returned (.bool true) ∧ Super.Boxed u j i g p w') := Lib.hid (fun u => Super.right_yes hv u)
  have HM : Hid (∀ u : World, Calls Tryz.prog 53 #[.agg #[.int .i64 j, .int .i64 i, .int .i64 g, .int .i64 p]] u fun e w' => e = .returned (.int .i64 (3 + i / 2)) ∧ Below u.heap.size u w') := Lib.hid (fun u => Super.meta_yes hv u)
  by_cases hlen : (n : Int) = 3 + i / 2
  rotate_left
  · have hr : secB ⟨j, i, g, p⟩ l = false := Inode.decB_no (fun h => hlen (by rw [← hn]; exact h.2.1))
    rw [hr]
    have hne : ((n : Int) == 3 + i / 2) = false := by simpa using hlen
    clear hv hr hn hlen
    go_enter Tryz.func121, Tryz.ntmps121
    go_upto_region 1 with fail
    rw [← HWE.out]
    go_wp2_with (first
      | (go_at_call 98; (with_reducible refine (HV.out _).mono ?_); rintro e w1 ⟨he, hbx⟩; obtain rfl := he; have hb := hbx.below; replace HB := Lib.hid (HB.out.trans (hb.mono HB.out.size)); replace HW := Lib.hid (HW.out.below hb HW.out.lt); clear hb hbx g0 g1 g2 g3; obtain ⟨g0, g1, g2, g3⟩ := four_cells HW.out)
      | (go_at_call 53; (with_reducible refine (HM.out _).mono ?_); rintro e w2 ⟨he, hb⟩; obtain rfl := he; replace HB := Lib.hid (HB.out.trans (hb.mono HB.out.size)); clear hb g0 g1 g2 g3))
    go_ret
    exact ⟨rfl, HB.out⟩
  have hr : secB ⟨j, i, g, p⟩ l = !l.any badS := by
    cases hb : l.any badS with
    | false => exact Inode.decB_yes ⟨hv, by rw [hn]; exact hlen, badS_no.1 hb⟩
    | true => exact Inode.decB_no (fun h => by rw [badS_no.2 h.2.2] at hb; cases hb)
  rw [hr]
  have HC : Hid (∀ u : World, Below w.heap.size w u → Calls Tryz.prog 178 #[.slice A n c, .func (.func 179) #[] #[]] u fun e w' => e = .returned (.bool (l.any badS)) ∧ Below u.heap.size u w') := Lib.hid (fun u hu => contains_sec l L A n c u hn ((HS.out.below hu).more hu.size) hm)
  generalize l.any badS = r at *
  have hne : ((n : Int) == 3 + i / 2) = true := by simp [hlen]
  clear hv hr hn hlen
  go_enter Tryz.func121, Tryz.ntmps121
  go_upto_region 1 with fail
  rw [← HWE.out]
  go_wp2_with (first
    | (go_at_call 98; (with_reducible refine (HV.out _).mono ?_); rintro e w1 ⟨he, hbx⟩; obtain rfl := he; have hb := hbx.below; replace HB := Lib.hid (HB.out.trans (hb.mono HB.out.size)); replace HW := Lib.hid (HW.out.below hb HW.out.lt); clear hb hbx g0 g1 g2 g3; obtain ⟨g0, g1, g2, g3⟩ := four_cells HW.out)
    | (go_at_call 53; (with_reducible refine (HM.out _).mono ?_); rintro e w2 ⟨he, hb⟩; obtain rfl := he; replace HB := Lib.hid (HB.out.trans (hb.mono HB.out.size)); clear hb g0 g1 g2 g3)
    | (go_at_call 178; (with_reducible refine (HC.out _ HB.out).mono ?_); rintro e w3 ⟨he, hb⟩; obtain rfl := he; replace HB := Lib.hid (HB.out.trans (hb.mono HB.out.size)); clear hb))
  go_ret
  exact ⟨rfl, HB.out⟩

set_option maxRecDepth 100000 in
set_option maxHeartbeats 1600000 in
theorem eqsec_in (l m : List (List UInt8)) (A1 A2 : Option Addr) (n c d : Nat) (L M : List Sc) (w : World) (hl : l.length = n) (hm : m.length = n) (h1 : SecsAt w w.heap.size A1 L l) (h2 : SecsAt w w.heap.size A2 M m) (hn : n ≤ 1000000) :
    Calls Tryz.prog 125 #[.slice A1 n c, .slice A2 n d, .func (.func 114) #[] #[]] w fun e w' => e = .returned (.bool (l == m)) ∧ w = w' := by
  have H1 := Lib.hid h1
  have H2 := Lib.hid h2
  have HL := Lib.hid hl
  have HMl := Lib.hid hm
  clear h1 h2 hl hm
  go_enter Tryz.func125, Tryz.ntmps125
  go_wp2
  go_loopw [7, 8, 9, 17] (fun _ _ _ k wr => ∃ i : Nat, k = .int .i64 (i : Int) ∧ i ≤ n ∧ Hid (l.take i = m.take i) ∧ w = wr) (fun _ _ _ k _ => n - (intOf k).toNat)
  case atStart => exact ⟨0, rfl, Nat.zero_le _, Lib.hid (by simp), rfl⟩
  case round =>
    obtain ⟨i, rfl, hi, HE, hw⟩ := hrel
    subst hw
    by_cases hlt : i < n
    · have hlti : (i : Int) < (n : Int) := by omega
      have hi0 : (0 : Int) ≤ (i : Int) := by omega
      obtain ⟨b1, o1, hA1, -⟩ := H1.out.first (by rw [HL.out]; omega)
      subst hA1
      obtain ⟨b2, o2, hA2, -⟩ := H2.out.first (by rw [HMl.out]; omega)
      subst hA2
      obtain ⟨x, hx⟩ : ∃ x, l[i]? = some x := ⟨_, List.getElem?_eq_getElem (by rw [HL.out]; exact hlt)⟩
      obtain ⟨y, hy⟩ : ∃ y, m[i]? = some y := ⟨_, List.getElem?_eq_getElem (by rw [HMl.out]; exact hlt)⟩
      obtain ⟨s, -, hcx, hrx, -, -⟩ := H1.out.get hx
      obtain ⟨t, -, hcy, hry, -, -⟩ := H2.out.get hy
      have HQ := Lib.hid (Inode.equal_any x y s.A x.length s.c t.A y.length t.c _ _ w rfl hrx rfl hry)
      have HX := Lib.hid hx
      have HY := Lib.hid hy
      clear hx hy hrx hry
      cases hxy : (x == y)
      · have HF : Hid ((l == m) = false) := Lib.hid (by
          cases h : (l == m) with
          | false => rfl
          | true =>
            have h : l = m := by simpa using h
            have h1 := HY.out
            rw [← h, HX.out] at h1
            injection h1 with h1
            rw [h1] at hxy
            simp at hxy)
        go_wp2_with (go_at_call 114; (with_reducible refine HQ.out.mono ?_); rintro e w2 ⟨he, hw⟩; rw [hxy] at he; obtain rfl := he; subst hw)
        go_ret
        exact ⟨ret_b HF.out, rfl⟩
      · have HE2 : Hid (l.take (i + 1) = m.take (i + 1)) := Lib.hid (by
          have h : x = y := by simpa using hxy
          rw [List.take_add_one, List.take_add_one, HE.out, HX.out, HY.out, h])
        go_wp2_with (go_at_call 114; (with_reducible refine HQ.out.mono ?_); rintro e w2 ⟨he, hw⟩; rw [hxy] at he; obtain rfl := he; subst hw)
        go_roundw
        case rel => exact ⟨i + 1, by go_num, hlt, HE2, by first | trivial | rfl⟩
        case measure => simp [intOf]; omega
    · obtain rfl : n = i := by omega
      have HT : Hid ((l == m) = true) := Lib.hid (by
        have h := HE.out
        rw [List.take_of_length_le (by rw [HL.out]; exact Nat.le_refl _), List.take_of_length_le (by rw [HMl.out]; exact Nat.le_refl _)] at h
        rw [h]; simp)
      go_wp2
      go_ret
      exact ⟨ret_b HT.out, rfl⟩
theorem eqsec_any (l m : List (List UInt8)) (A1 A2 : Option Addr) (n k c d : Nat) (L M : List Sc) (w : World) (hl : l.length = n) (hm : m.length = k) (h1 : SecsAt w w.heap.size A1 L l) (h2 : SecsAt w w.heap.size A2 M m) (hn : n ≤ 1000000) :
    Calls Tryz.prog 125 #[.slice A1 n c, .slice A2 k d, .func (.func 114) #[] #[]] w fun e w' => e = .returned (.bool (l == m)) ∧ w = w' := by
  by_cases hk : n = k
  · subst hk
    exact eqsec_in l m A1 A2 n c d L M w hl hm h1 h2 hn
  · have hf : (l == m) = false := by
      rw [← Bool.not_eq_true]
      intro h
      have h : l = m := by simpa using h
      rw [h] at hl
      omega
    have hne : ((n : Int) != (k : Int)) = true := by simp; omega
    rw [hf]
    clear h1 h2 hl hm hk hf
    go_enter Tryz.func125, Tryz.ntmps125
    go_wp2
    go_ret
    exact ⟨rfl, rfl⟩
end Go.Proofs.YtcjkbmmjpkghlaaGreat.Meta
