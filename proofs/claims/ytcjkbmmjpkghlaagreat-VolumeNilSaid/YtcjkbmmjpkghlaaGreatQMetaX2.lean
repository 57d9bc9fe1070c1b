/-
  Package meta: Right.
-/
import Derived.Test.YtcjkbmmjpkghlaaGreatQMetaX1
namespace Go.Proofs.YtcjkbmmjpkghlaaGreat.Meta
open Go.Proofs.YtcjkbmmjpkghlaaGreat
open Go.RowKit

theorem beyond_no {l : List UInt8} (hl : l.length = 64) {x : Int} : beyond l x = false ↔ ∀ k : Nat, x ≤ (k : Int) → k < 512 → Bits.hb l k = false := by
  unfold beyond
  constructor
  · intro h k h1 h2
    cases hk : Bits.hb l k with
    | false => rfl
    | true =>
      rw [Option.isSome_eq_false_iff, Option.isNone_iff_eq_none] at h
      simp only [Bits.fst, List.find?_eq_none, List.mem_range] at h
      have := h k (by omega)
      rw [Bits.cnd_in h1 (by omega), hk] at this
      exact absurd rfl this
  · intro h
    rw [Bits.fst_no]
    · rfl
    · intro k hk
      by_cases h1 : x ≤ (k : Int)
      · rw [Bits.cnd_in h1 (by omega), h k h1 (by omega)]
        rfl
      · exact Bits.cnd_lo h1
theorem badO_no {l : List Int} : l.any badO = false ↔ ∀ x ∈ l, 0 ≤ x ∧ x ≤ 16 := by
  rw [List.any_eq_false]
  constructor
  · intro h x hx
    have := h x hx
    simp only [badO, Bool.or_eq_true, decide_eq_true_eq, not_or] at this
    omega
  · intro h x hx
    have := h x hx
    simp only [badO, Bool.or_eq_true, decide_eq_true_eq, not_or]
    omega
theorem badI_no {l : List Inode.Ino} : l.any badI = false ↔ ∀ n ∈ l, Inode.Right n := by
  rw [List.any_eq_false]
  constructor
  · intro h x hx
    have := h x hx
    simp only [badI, Bool.not_eq_true', Bool.not_eq_false] at this
    exact rightB_or x this
  · intro h x hx
    simp only [badI, Bool.not_eq_true', Bool.not_eq_false]
    exact Inode.rightB_yes (h x hx)
theorem right_parts {G : Geo} (h : G.Ok) (m : Met) : rightB G m = (Intern.rightB m.rows && (((m.own.length : Int) == G.g) && !m.own.any badO) && (((m.used.length : Int) == 64) && !beyond m.used (G.g * G.p)) && (((m.ino.length : Int) == G.i) && !m.ino.any badI)) := by
  by_cases hR : Right G m
  · rw [rightB_yes hR, Intern.rightB_yes hR.rows, badO_no.2 hR.own, badI_no.2 hR.ino, (beyond_no hR.ulen).2 hR.used]
    simp [hR.olen, hR.ulen, hR.ilen]
  · rw [rightB_no hR]
    symm
    rw [← Bool.not_eq_true]
    intro hb
    simp only [Bool.and_eq_true, beq_iff_eq, Bool.not_eq_true'] at hb
    obtain ⟨⟨⟨h1, h2, h3⟩, h4, h5⟩, h6, h7⟩ := hb
    have h4' : m.used.length = 64 := by omega
    exact hR ⟨h, rightR_or _ h1, h2, badO_no.1 h3, h4', (beyond_no h4').1 h5, h6, badI_no.1 h7⟩
set_option maxRecDepth 100000 in
set_option maxHeartbeats 3200000 in
theorem right_in (j i g p : Int) (m : Met) (ho : Okm m) (rA oA uA iA : Option Addr) (rn rc on_ oc un uc in_ ic : Nat) (w : World) (hrn : m.rows.length = rn) (hon : m.own.length = on_) (hun : m.used.length = un) (hin : m.ino.length = in_)
    (hl : Lies w w.heap.size ⟨rA, rc, oA, oc, uA, uc, iA, ic⟩ m) (hs : on_ ≤ 1000000 ∧ un ≤ 1000000 ∧ in_ ≤ 1000000) :
    Calls Tryz.prog 103 #[.agg #[.int .i64 j, .int .i64 i, .int .i64 g, .int .i64 p], .agg #[.slice rA rn rc, .slice oA on_ oc, .slice uA un uc, .slice iA in_ ic]] w fun e w' => e = .returned (.bool (rightB ⟨j, i, g, p⟩ m)) ∧ Below w.heap.size w w' := by
  have HL := Lib.hid hl
  obtain ⟨W, hW⟩ : ∃ W, W = (w.alloc (.cells #[.int .i64 j, .int .i64 i, .int .i64 g, .int .i64 p] 29)).alloc (.cells #[.slice rA rn rc, .slice oA on_ oc, .slice uA un uc, .slice iA in_ ic] 60) := ⟨_, rfl⟩
  have hbW : Below w.heap.size w W := by rw [hW]; exact (Below.refl _ _).alloc (Nat.le_refl _) _ |>.alloc (by simp) _
  have hG : Bk W w.heap.size 29 [.int .i64 j, .int .i64 i, .int .i64 g, .int .i64 p] := by rw [hW]; exact (Bk.new w 29 [.int .i64 j, .int .i64 i, .int .i64 g, .int .i64 p]).below ((Below.refl _ _).alloc (Nat.le_refl _) _) (by simp)
  have hM : Bk W (w.heap.size + 1) 60 [.slice rA rn rc, .slice oA on_ oc, .slice uA un uc, .slice iA in_ ic] := by
    rw [hW]
    have := Bk.new (w.alloc (.cells #[.int .i64 j, .int .i64 i, .int .i64 g, .int .i64 p] 29)) 60 [.slice rA rn rc, .slice oA on_ oc, .slice uA un uc, .slice iA in_ ic]
    simpa using this
  have HG := Lib.hid hG
  have HM := Lib.hid hM
  have HB := Lib.hid hbW
  have HW := Lib.hid hW
  obtain ⟨g0, g1, g2, g3⟩ := four_cells HG.out
  obtain ⟨m0, m1, m2, m3⟩ := four_cells HM.out
  clear hl hbW hG hM hW
  by_cases hv : Super.Valid j i g p
  rotate_left
  · have HN : Hid (rightB ⟨j, i, g, p⟩ m = false) := Lib.hid (not_geo hv)
    have HV : Hid (∀ u : World, Calls Tryz.prog 98 #[.agg #[.int .i64 j, .int .i64 i, .int .i64 g, .int .i64 p]] u fun e w' => e = .returned (.bool false) ∧ Super.Boxed u j i g p w') := Lib.hid (fun u => Super.right_no hv u)
    clear hv hrn hon hun hin
    go_enter Tryz.func103, Tryz.ntmps103
    go_upto_region 1 with fail
    rw [← HW.out]
    go_wp2_with (go_at_call 98; (with_reducible refine (HV.out _).mono ?_); rintro e w1 ⟨he, hbx⟩; obtain rfl := he; have hb := hbx.below; replace HB := Lib.hid (HB.out.trans (hb.mono HB.out.size)); clear hb hbx)
    go_ret
    exact ⟨ret_b HN.out, HB.out⟩
  have hgp1 := hv.gp1
  have hgp2 := hv.gp
  have hp : rightB ⟨j, i, g, p⟩ m = _ := right_parts (G := ⟨j, i, g, p⟩) hv m
  have HV : Hid (∀ u : World, Calls Tryz.prog 98 #[.agg #[.int .i64 j, .int .i64 i, .int .i64 g, .int .i64 p]] u fun e w' => e = .returned (.bool true) ∧ Super.Boxed u j i g p w') := Lib.hid (fun u => Super.right_yes hv u)
  have HR : Hid (∀ u : World, Below w.heap.size w u → Calls Tryz.prog 32 #[.slice rA rn rc] u fun e w' => e = .returned (.bool (Intern.rightB m.rows)) ∧ Below u.heap.size u w') := Lib.hid (fun u hu => Intern.right_all m.rows rA rn rc u hrn ((HL.out.rows.below hu).more hu.size))
  have HO : Hid (∀ u : World, Below w.heap.size w u → Calls Tryz.prog 161 #[.agg #[.int .i64 j, .int .i64 i, .int .i64 g, .int .i64 p], .slice oA on_ oc] u fun e w' => e = .returned (.bool (((on_ : Int) == g) && !m.own.any badO)) ∧ Below u.heap.size u w') := Lib.hid (fun u hu => areown_any j i g p m.own oA on_ oc u hon ((HL.out.own.below hu).more hu.size) hs.1)
  have HU : Hid (∀ u : World, Below w.heap.size w u → Calls Tryz.prog 162 #[.agg #[.int .i64 j, .int .i64 i, .int .i64 g, .int .i64 p], .slice uA un uc] u fun e w' => e = .returned (.bool (((un : Int) == 64) && !beyond m.used (g * p))) ∧ Below u.heap.size u w') := Lib.hid (fun u hu => areused_any j i g p (by omega) hgp2 m.used uA un uc u hun ((HL.out.used.below hu).more hu.size) hs.2.1)
  have HI : Hid (∀ u : World, Below w.heap.size w u → Calls Tryz.prog 163 #[.agg #[.int .i64 j, .int .i64 i, .int .i64 g, .int .i64 p], .slice iA in_ ic] u fun e w' => e = .returned (.bool (((in_ : Int) == i) && !m.ino.any badI)) ∧ Below u.heap.size u w') := Lib.hid (fun u hu => areino_any j i g p m.ino ho.ino iA in_ ic u hin ((HL.out.ino.below hu).more hu.size) hs.2.2)
  simp only [hon, hun, hin] at hp
  generalize rightB ⟨j, i, g, p⟩ m = res at *
  generalize Intern.rightB m.rows = rb at *
  generalize (((on_ : Int) == g) && !m.own.any badO) = ob at *
  generalize (((un : Int) == 64) && !beyond m.used (g * p)) = ub at *
  generalize (((in_ : Int) == i) && !m.ino.any badI) = ib at *
  clear hv hgp1 hgp2 hrn hon hun hin
  have HP := Lib.hid hp
  clear hp
  cases rb
  · go_enter Tryz.func103, Tryz.ntmps103
    go_upto_region 1 with fail
    rw [← HW.out]
    go_wp2_with (first | (go_at_call 98; (with_reducible refine (HV.out _).mono ?_); rintro e w1 ⟨he, hbx⟩; obtain rfl := he; have hb := hbx.below; clear g0 g1 g2 g3 m0 m1 m2 m3; replace HG := Lib.hid (HG.out.below hb HG.out.lt); replace HM := Lib.hid (HM.out.below hb HM.out.lt); replace HB := Lib.hid (HB.out.trans (hb.mono HB.out.size)); obtain ⟨g0, g1, g2, g3⟩ := four_cells HG.out; obtain ⟨m0, m1, m2, m3⟩ := four_cells HM.out; clear hb hbx) | (go_at_call 32; (with_reducible refine (HR.out _ HB.out).mono ?_); rintro e w2 ⟨he, hb⟩; obtain rfl := he; clear g0 g1 g2 g3 m0 m1 m2 m3; replace HG := Lib.hid (HG.out.below hb HG.out.lt); replace HM := Lib.hid (HM.out.below hb HM.out.lt); replace HB := Lib.hid (HB.out.trans (hb.mono HB.out.size)); obtain ⟨g0, g1, g2, g3⟩ := four_cells HG.out; obtain ⟨m0, m1, m2, m3⟩ := four_cells HM.out; clear hb))
    go_ret
    exact ⟨ret_b HP.out, HB.out⟩
  cases ob
  · go_enter Tryz.func103, Tryz.ntmps103
    go_upto_region 1 with fail
    rw [← HW.out]
    go_wp2_with (first | (go_at_call 98; (with_reducible refine (HV.out _).mono ?_); rintro e w1 ⟨he, hbx⟩; obtain rfl := he; have hb := hbx.below; clear g0 g1 g2 g3 m0 m1 m2 m3; replace HG := Lib.hid (HG.out.below hb HG.out.lt); replace HM := Lib.hid (HM.out.below hb HM.out.lt); replace HB := Lib.hid (HB.out.trans (hb.mono HB.out.size)); obtain ⟨g0, g1, g2, g3⟩ := four_cells HG.out; obtain ⟨m0, m1, m2, m3⟩ := four_cells HM.out; clear hb hbx) | (go_at_call 32; (with_reducible refine (HR.out _ HB.out).mono ?_); rintro e w2 ⟨he, hb⟩; obtain rfl := he; clear g0 g1 g2 g3 m0 m1 m2 m3; replace HG := Lib.hid (HG.out.below hb HG.out.lt); replace HM := Lib.hid (HM.out.below hb HM.out.lt); replace HB := Lib.hid (HB.out.trans (hb.mono HB.out.size)); obtain ⟨g0, g1, g2, g3⟩ := four_cells HG.out; obtain ⟨m0, m1, m2, m3⟩ := four_cells HM.out; clear hb) | (go_at_call 161; (with_reducible refine (HO.out _ HB.out).mono ?_); rintro e w3 ⟨he, hb⟩; obtain rfl := he; clear g0 g1 g2 g3 m0 m1 m2 m3; replace HG := Lib.hid (HG.out.below hb HG.out.lt); replace HM := Lib.hid (HM.out.below hb HM.out.lt); replace HB := Lib.hid (HB.out.trans (hb.mono HB.out.size)); obtain ⟨g0, g1, g2, g3⟩ := four_cells HG.out; obtain ⟨m0, m1, m2, m3⟩ := four_cells HM.out; clear hb))
    go_ret
    exact ⟨ret_b HP.out, HB.out⟩
  cases ub
  · go_enter Tryz.func103, Tryz.ntmps103
    go_upto_region 1 with fail
    rw [← HW.out]
    go_wp2_with (first | (go_at_call 98; (with_reducible refine (HV.out _).mono ?_); rintro e w1 ⟨he, hbx⟩; obtain rfl := he; have hb := hbx.below; clear g0 g1 g2 g3 m0 m1 m2 m3; replace HG := Lib.hid (HG.out.below hb HG.out.lt); replace HM := Lib.hid (HM.out.below hb HM.out.lt); replace HB := Lib.hid (HB.out.trans (hb.mono HB.out.size)); obtain ⟨g0, g1, g2, g3⟩ := four_cells HG.out; obtain ⟨m0, m1, m2, m3⟩ := four_cells HM.out; clear hb hbx) | (go_at_call 32; (with_reducible refine (HR.out _ HB.out).mono ?_); rintro e w2 ⟨he, hb⟩; obtain rfl := he; clear g0 g1 g2 g3 m0 m1 m2 m3; replace HG := Lib.hid (HG.out.below hb HG.out.lt); replace HM := Lib.hid (HM.out.below hb HM.out.lt); replace HB := Lib.hid (HB.out.trans (hb.mono HB.out.size)); obtain ⟨g0, g1, g2, g3⟩ := four_cells HG.out; obtain ⟨m0, m1, m2, m3⟩ := four_cells HM.out; clear hb) | (go_at_call 161; (with_reducible refine (HO.out _ HB.out).mono ?_); rintro e w3 ⟨he, hb⟩; obtain rfl := he; clear g0 g1 g2 g3 m0 m1 m2 m3; replace HG := Lib.hid (HG.out.below hb HG.out.lt); replace HM := Lib.hid (HM.out.below hb HM.out.lt); replace HB := Lib.hid (HB.out.trans (hb.mono HB.out.size)); obtain ⟨g0, g1, g2, g3⟩ := four_cells HG.out; obtain ⟨m0, m1, m2, m3⟩ := four_cells HM.out; clear hb) | (go_at_call 162; (with_reducible refine (HU.out _ HB.out).mono ?_); rintro e w4 ⟨he, hb⟩; obtain rfl := he; clear g0 g1 g2 g3 m0 m1 m2 m3; replace HG := Lib.hid (HG.out.below hb HG.out.lt); replace HM := Lib.hid (HM.out.below hb HM.out.lt); replace HB := Lib.hid (HB.out.trans (hb.mono HB.out.size)); obtain ⟨g0, g1, g2, g3⟩ := four_cells HG.out; obtain ⟨m0, m1, m2, m3⟩ := four_cells HM.out; clear hb))
    go_ret
    exact ⟨ret_b HP.out, HB.out⟩
  cases ib
  · go_enter Tryz.func103, Tryz.ntmps103
    go_upto_region 1 with fail
    rw [← HW.out]
    go_wp2_with (first | (go_at_call 98; (with_reducible refine (HV.out _).mono ?_); rintro e w1 ⟨he, hbx⟩; obtain rfl := he; have hb := hbx.below; clear g0 g1 g2 g3 m0 m1 m2 m3; replace HG := Lib.hid (HG.out.below hb HG.out.lt); replace HM := Lib.hid (HM.out.below hb HM.out.lt); replace HB := Lib.hid (HB.out.trans (hb.mono HB.out.size)); obtain ⟨g0, g1, g2, g3⟩ := four_cells HG.out; obtain ⟨m0, m1, m2, m3⟩ := four_cells HM.out; clear hb hbx) | (go_at_call 32; (with_reducible refine (HR.out _ HB.out).mono ?_); rintro e w2 ⟨he, hb⟩; obtain rfl := he; clear g0 g1 g2 g3 m0 m1 m2 m3; replace HG := Lib.hid (HG.out.below hb HG.out.lt); replace HM := Lib.hid (HM.out.below hb HM.out.lt); replace HB := Lib.hid (HB.out.trans (hb.mono HB.out.size)); obtain ⟨g0, g1, g2, g3⟩ := four_cells HG.out; obtain ⟨m0, m1, m2, m3⟩ := four_cells HM.out; clear hb) | (go_at_call 161; (with_reducible refine (HO.out _ HB.out).mono ?_); rintro e w3 ⟨he, hb⟩; obtain rfl := he; clear g0 g1 g2 g3 m0 m1 m2 m3; replace HG := Lib.hid (HG.out.below hb HG.out.lt); replace HM := Lib.hid (HM.out.below hb HM.out.lt); replace HB := Lib.hid (HB.out.trans (hb.mono HB.out.size)); obtain ⟨g0, g1, g2, g3⟩ := four_cells HG.out; obtain ⟨m0, m1, m2, m3⟩ := four_cells HM.out; clear hb) | (go_at_call 162; (with_reducible refine (HU.out _ HB.out).mono ?_); rintro e w4 ⟨he, hb⟩; obtain rfl := he; clear g0 g1 g2 g3 m0 m1 m2 m3; replace HG := Lib.hid (HG.out.below hb HG.out.lt); replace HM := Lib.hid (HM.out.below hb HM.out.lt); replace HB := Lib.hid (HB.out.trans (hb.mono HB.out.size)); obtain ⟨g0, g1, g2, g3⟩ := four_cells HG.out; obtain ⟨m0, m1, m2, m3⟩ := four_cells HM.out; clear hb) | (go_at_call 163; (with_reducible refine (HI.out _ HB.out).mono ?_); rintro e w5 ⟨he, hb⟩; obtain rfl := he; clear g0 g1 g2 g3 m0 m1 m2 m3; replace HG := Lib.hid (HG.out.below hb HG.out.lt); replace HM := Lib.hid (HM.out.below hb HM.out.lt); replace HB := Lib.hid (HB.out.trans (hb.mono HB.out.size)); obtain ⟨g0, g1, g2, g3⟩ := four_cells HG.out; obtain ⟨m0, m1, m2, m3⟩ := four_cells HM.out; clear hb))
    go_ret
    exact ⟨ret_b HP.out, HB.out⟩
  go_enter Tryz.func103, Tryz.ntmps103
  go_upto_region 1 with fail
  rw [← HW.out]
  go_wp2_with (first | (go_at_call 98; (with_reducible refine (HV.out _).mono ?_); rintro e w1 ⟨he, hbx⟩; obtain rfl := he; have hb := hbx.below; clear g0 g1 g2 g3 m0 m1 m2 m3; replace HG := Lib.hid (HG.out.below hb HG.out.lt); replace HM := Lib.hid (HM.out.below hb HM.out.lt); replace HB := Lib.hid (HB.out.trans (hb.mono HB.out.size)); obtain ⟨g0, g1, g2, g3⟩ := four_cells HG.out; obtain ⟨m0, m1, m2, m3⟩ := four_cells HM.out; clear hb hbx) | (go_at_call 32; (with_reducible refine (HR.out _ HB.out).mono ?_); rintro e w2 ⟨he, hb⟩; obtain rfl := he; clear g0 g1 g2 g3 m0 m1 m2 m3; replace HG := Lib.hid (HG.out.below hb HG.out.lt); replace HM := Lib.hid (HM.out.below hb HM.out.lt); replace HB := Lib.hid (HB.out.trans (hb.mono HB.out.size)); obtain ⟨g0, g1, g2, g3⟩ := four_cells HG.out; obtain ⟨m0, m1, m2, m3⟩ := four_cells HM.out; clear hb) | (go_at_call 161; (with_reducible refine (HO.out _ HB.out).mono ?_); rintro e w3 ⟨he, hb⟩; obtain rfl := he; clear g0 g1 g2 g3 m0 m1 m2 m3; replace HG := Lib.hid (HG.out.below hb HG.out.lt); replace HM := Lib.hid (HM.out.below hb HM.out.lt); replace HB := Lib.hid (HB.out.trans (hb.mono HB.out.size)); obtain ⟨g0, g1, g2, g3⟩ := four_cells HG.out; obtain ⟨m0, m1, m2, m3⟩ := four_cells HM.out; clear hb) | (go_at_call 162; (with_reducible refine (HU.out _ HB.out).mono ?_); rintro e w4 ⟨he, hb⟩; obtain rfl := he; clear g0 g1 g2 g3 m0 m1 m2 m3; replace HG := Lib.hid (HG.out.below hb HG.out.lt); replace HM := Lib.hid (HM.out.below hb HM.out.lt); replace HB := Lib.hid (HB.out.trans (hb.mono HB.out.size)); obtain ⟨g0, g1, g2, g3⟩ := four_cells HG.out; obtain ⟨m0, m1, m2, m3⟩ := four_cells HM.out; clear hb) | (go_at_call 163; (with_reducible refine (HI.out _ HB.out).mono ?_); rintro e w5 ⟨he, hb⟩; obtain rfl := he; clear g0 g1 g2 g3 m0 m1 m2 m3; replace HG := Lib.hid (HG.out.below hb HG.out.lt); replace HM := Lib.hid (HM.out.below hb HM.out.lt); replace HB := Lib.hid (HB.out.trans (hb.mono HB.out.size)); obtain ⟨g0, g1, g2, g3⟩ := four_cells HG.out; obtain ⟨m0, m1, m2, m3⟩ := four_cells HM.out; clear hb))
  go_ret
  exact ⟨ret_b HP.out, HB.out⟩
theorem right_any (G : Geo) (m : Met) (ho : Okm m) (x : Mem) (w : World) (hl : Lies w w.heap.size x m) (hs : m.own.length ≤ 1000000 ∧ m.used.length ≤ 1000000 ∧ m.ino.length ≤ 1000000) :
    Calls Tryz.prog 103 #[.agg #[.int .i64 G.j, .int .i64 G.i, .int .i64 G.g, .int .i64 G.p], x.v m] w fun e w' => e = .returned (.bool (rightB G m)) ∧ Below w.heap.size w w' :=
  right_in G.j G.i G.g G.p m ho x.rA x.oA x.uA x.iA _ x.rc _ x.oc _ x.uc _ x.ic w rfl rfl rfl rfl hl hs
end Go.Proofs.YtcjkbmmjpkghlaaGreat.Meta
