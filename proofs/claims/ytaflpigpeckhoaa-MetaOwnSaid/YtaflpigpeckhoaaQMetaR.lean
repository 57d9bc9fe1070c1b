/-
  Which of what is known may be, as the document answers.
-/
import Derived.Test.YtaflpigpeckhoaaQMetaA
import Derived.Test.YtaflpigpeckhoaaQSuper
import Derived.Test.YtaflpigpeckhoaaQInternA
import Derived.Test.YtaflpigpeckhoaaQInodeA
import Derived.Test.YtaflpigpeckhoaaQBits
import Derived.WalkMore
import Derived.Deep.DeepCutAuto
namespace Go.Proofs.Ytaflpigpeckhoaa.Meta
open Go.Proofs.Ytaflpigpeckhoaa
open Go.RowKit

theorem not_geo {G : Geo} {m : Met} (h : ¬ G.Ok) : rightB G m = false := rightB_no fun h' => h h'.geo
theorem not_rows {G : Geo} {m : Met} (h : Intern.rightB m.rows = false) : rightB G m = false := rightB_no fun h' => by
  rw [Intern.rightB_yes h'.rows] at h
  cases h
theorem not_olen {G : Geo} {m : Met} (h : (m.own.length : Int) ≠ G.g) : rightB G m = false := rightB_no fun h' => h h'.olen
theorem not_ulen {G : Geo} {m : Met} (h : m.used.length ≠ 64) : rightB G m = false := rightB_no fun h' => h h'.ulen
theorem not_ilen {G : Geo} {m : Met} (h : (m.ino.length : Int) ≠ G.i) : rightB G m = false := rightB_no fun h' => h h'.ilen
theorem not_own {G : Geo} {m : Met} {j : Nat} {x : Int} (hx : m.own[j]? = some x) (h : ¬ (0 ≤ x ∧ x ≤ 16)) : rightB G m = false := rightB_no fun h' => h (h'.own x (List.mem_of_getElem? hx))
theorem not_used {G : Geo} {m : Met} {k : Nat} (h0 : G.g * G.p ≤ (k : Int)) (h1 : k < 512) (h : Bits.hb m.used k = true) : rightB G m = false := rightB_no fun h' => by
  rw [h'.used k h0 h1] at h
  cases h
theorem not_ino {G : Geo} {m : Met} {j : Nat} {n : Inode.Ino} (hx : m.ino[j]? = some n) (h : Inode.rightB n = false) : rightB G m = false := rightB_no fun h' => by
  rw [Inode.rightB_yes (h'.ino n (List.mem_of_getElem? hx))] at h
  cases h
theorem take_all {α : Type} {P : α → Prop} {l : List α} {j : Nat} {x : α} (h : ∀ y ∈ l.take j, P y) (hx : l[j]? = some x) (hp : P x) : ∀ y ∈ l.take (j + 1), P y := by
  intro y hy
  rw [List.take_add_one, hx] at hy
  rcases List.mem_append.1 hy with hy | hy
  · exact h y hy
  · have : y = x := by simpa using hy
    rw [this]; exact hp
theorem ret_b {a b : Bool} (h : a = b) : Ending.returned (.bool b) = .returned (.bool a) := by rw [h]
theorem size_ino : (Try.prog.info? 52).map (·.size) = some 14 := by kernel_rfl
theorem take_none {α : Type} {P : α → Prop} {l : List α} : ∀ y ∈ l.take 0, P y := fun y hy => by simp at hy
theorem rightB_or (n : Inode.Ino) (h : Inode.rightB n = true) : Inode.Right n := by
  by_cases hr : Inode.Right n
  · exact hr
  · rw [Inode.rightB_no hr] at h
    cases h
theorem rightR_or (l : List Intern.Rw) (h : Intern.rightB l = true) : Intern.Right l := by
  by_cases hr : Intern.Right l
  · exact hr
  · rw [Intern.rightB_no hr] at h
    cases h
set_option maxRecDepth 100000 in
set_option maxHeartbeats 3200000 in
theorem rright_in (j i g p : Int) (m : Met) (ho : Okm m) (rA oA uA iA : Option Addr) (rn rc on_ oc un uc in_ ic : Nat) (w : World) (hrn : m.rows.length = rn) (hon : m.own.length = on_) (hun : m.used.length = un) (hin : m.ino.length = in_)
    (hl : Lies w w.heap.size ⟨rA, rc, oA, oc, uA, uc, iA, ic⟩ m) (hs : on_ ≤ 1000000 ∧ un ≤ 1000000 ∧ in_ ≤ 1000000) :
    Calls Try.prog 17 #[.agg #[.int .i64 j, .int .i64 i, .int .i64 g, .int .i64 p], .agg #[.slice rA rn rc, .slice oA on_ oc, .slice uA un uc, .slice iA in_ ic]] w fun e w' => e = .returned (.bool (rightB ⟨j, i, g, p⟩ m)) ∧ Below w.heap.size w w' := by
  have HL := Lib.hid hl
  have HO := Lib.hid ho
  have HRN := Lib.hid hrn
  have HON := Lib.hid hon
  have HUN := Lib.hid hun
  have HIN := Lib.hid hin
  obtain ⟨os1, us1, is1⟩ := hs
  obtain ⟨W, hW⟩ : ∃ W, W = (w.alloc (.cells #[.int .i64 j, .int .i64 i, .int .i64 g, .int .i64 p] 23)).alloc (.cells #[.slice rA rn rc, .slice oA on_ oc, .slice uA un uc, .slice iA in_ ic] 29) := ⟨_, rfl⟩
  have hbW : Below w.heap.size w W := by rw [hW]; exact (Below.refl _ _).alloc (Nat.le_refl _) _ |>.alloc (by simp) _
  have hG : Bk W w.heap.size 23 [.int .i64 j, .int .i64 i, .int .i64 g, .int .i64 p] := by rw [hW]; exact (Bk.new w 23 [.int .i64 j, .int .i64 i, .int .i64 g, .int .i64 p]).below ((Below.refl _ _).alloc (Nat.le_refl _) _) (by simp)
  have hM : Bk W (w.heap.size + 1) 29 [.slice rA rn rc, .slice oA on_ oc, .slice uA un uc, .slice iA in_ ic] := by
    rw [hW]
    have := Bk.new (w.alloc (.cells #[.int .i64 j, .int .i64 i, .int .i64 g, .int .i64 p] 23)) 29 [.slice rA rn rc, .slice oA on_ oc, .slice uA un uc, .slice iA in_ ic]
    simpa using this
  have HG := Lib.hid hG
  have HM := Lib.hid hM
  have HB := Lib.hid hbW
  have HW := Lib.hid hW
  obtain ⟨g0, g1, g2, g3⟩ := four_cells HG.out
  obtain ⟨m0, m1, m2, m3⟩ := four_cells HM.out
  clear hl hrn hon hun hin hbW hG hM hW
  go_enter Try.func17, Try.ntmps17
  go_upto_region 1 with fail
  rw [← HW.out]
  by_cases hv : Super.Valid j i g p
  rotate_left
  · have HN : Hid (rightB ⟨j, i, g, p⟩ m = false) := Lib.hid (not_geo hv)
    have HV : Hid (∀ u : World, Calls Try.prog 24 #[.agg #[.int .i64 j, .int .i64 i, .int .i64 g, .int .i64 p]] u fun e w' => e = .returned (.bool false) ∧ Super.Boxed u j i g p w') := Lib.hid (fun u => Super.rright_no hv u)
    go_wp2_with (first | (go_at_call 24; (with_reducible refine (HV.out _).mono ?_); rintro e w1 ⟨he, hbx⟩; obtain rfl := he; have hb := hbx.below; clear g0 g1 g2 g3 m0 m1 m2 m3; replace HG := Lib.hid (HG.out.below hb HG.out.lt); replace HM := Lib.hid (HM.out.below hb HM.out.lt); replace HB := Lib.hid (HB.out.trans (hb.mono HB.out.size)); obtain ⟨g0, g1, g2, g3⟩ := four_cells HG.out; obtain ⟨m0, m1, m2, m3⟩ := four_cells HM.out; clear hb hbx) | (go_at_call 37; (with_reducible refine (HR.out _ HB.out).mono ?_); rintro e w2 ⟨he, hb⟩; obtain rfl := he; clear g0 g1 g2 g3 m0 m1 m2 m3; replace HG := Lib.hid (HG.out.below hb HG.out.lt); replace HM := Lib.hid (HM.out.below hb HM.out.lt); replace HB := Lib.hid (HB.out.trans (hb.mono HB.out.size)); obtain ⟨g0, g1, g2, g3⟩ := four_cells HG.out; obtain ⟨m0, m1, m2, m3⟩ := four_cells HM.out; clear hb))
    go_ret
    exact ⟨ret_b HN.out, HB.out⟩
  have hgp1 := hv.gp1
  have hgp2 := hv.gp
  have hg1 := hv.g1
  have hg2 := hv.g2
  have hi1 := hv.i1
  have hi2 := hv.i2
  have HGO : Hid (Geo.Ok ⟨j, i, g, p⟩) := Lib.hid hv
  have HV : Hid (∀ u : World, Calls Try.prog 24 #[.agg #[.int .i64 j, .int .i64 i, .int .i64 g, .int .i64 p]] u fun e w' => e = .returned (.bool true) ∧ Super.Boxed u j i g p w') := Lib.hid (fun u => Super.rright_yes hv u)
  obtain ⟨rb, hrb⟩ : ∃ rb, Intern.rightB m.rows = rb := ⟨_, rfl⟩
  have HR : Hid (∀ u : World, Below w.heap.size w u → Calls Try.prog 37 #[.slice rA rn rc] u fun e w' => e = .returned (.bool rb) ∧ Below u.heap.size u w') := Lib.hid (fun u hu => by
    have := Intern.rright_all m.rows rA rn rc w.heap.size u HRN.out (HL.out.rows.below hu)
    rw [hrb] at this
    exact this.mono fun e w' ⟨h1, q, h2⟩ => ⟨h1, by rw [h2]; exact Inode.below_drewN (Below.refl _ _) q⟩)
  have HRB := Lib.hid hrb
  clear hv hrb
  cases rb
  · have HN : Hid (rightB ⟨j, i, g, p⟩ m = false) := Lib.hid (not_rows HRB.out)
    skip
    go_wp2_with (first | (go_at_call 24; (with_reducible refine (HV.out _).mono ?_); rintro e w1 ⟨he, hbx⟩; obtain rfl := he; have hb := hbx.below; clear g0 g1 g2 g3 m0 m1 m2 m3; replace HG := Lib.hid (HG.out.below hb HG.out.lt); replace HM := Lib.hid (HM.out.below hb HM.out.lt); replace HB := Lib.hid (HB.out.trans (hb.mono HB.out.size)); obtain ⟨g0, g1, g2, g3⟩ := four_cells HG.out; obtain ⟨m0, m1, m2, m3⟩ := four_cells HM.out; clear hb hbx) | (go_at_call 37; (with_reducible refine (HR.out _ HB.out).mono ?_); rintro e w2 ⟨he, hb⟩; obtain rfl := he; clear g0 g1 g2 g3 m0 m1 m2 m3; replace HG := Lib.hid (HG.out.below hb HG.out.lt); replace HM := Lib.hid (HM.out.below hb HM.out.lt); replace HB := Lib.hid (HB.out.trans (hb.mono HB.out.size)); obtain ⟨g0, g1, g2, g3⟩ := four_cells HG.out; obtain ⟨m0, m1, m2, m3⟩ := four_cells HM.out; clear hb))
    go_ret
    exact ⟨ret_b HN.out, HB.out⟩
  by_cases ho : (on_ : Int) = g
  rotate_left
  · have HN : Hid (rightB ⟨j, i, g, p⟩ m = false) := Lib.hid (not_olen (by rw [HON.out]; exact ho))
    have hne : ((on_ : Int) != g) = true := by simp [ho]
    go_wp2_with (first | (go_at_call 24; (with_reducible refine (HV.out _).mono ?_); rintro e w1 ⟨he, hbx⟩; obtain rfl := he; have hb := hbx.below; clear g0 g1 g2 g3 m0 m1 m2 m3; replace HG := Lib.hid (HG.out.below hb HG.out.lt); replace HM := Lib.hid (HM.out.below hb HM.out.lt); replace HB := Lib.hid (HB.out.trans (hb.mono HB.out.size)); obtain ⟨g0, g1, g2, g3⟩ := four_cells HG.out; obtain ⟨m0, m1, m2, m3⟩ := four_cells HM.out; clear hb hbx) | (go_at_call 37; (with_reducible refine (HR.out _ HB.out).mono ?_); rintro e w2 ⟨he, hb⟩; obtain rfl := he; clear g0 g1 g2 g3 m0 m1 m2 m3; replace HG := Lib.hid (HG.out.below hb HG.out.lt); replace HM := Lib.hid (HM.out.below hb HM.out.lt); replace HB := Lib.hid (HB.out.trans (hb.mono HB.out.size)); obtain ⟨g0, g1, g2, g3⟩ := four_cells HG.out; obtain ⟨m0, m1, m2, m3⟩ := four_cells HM.out; clear hb))
    go_ret
    exact ⟨ret_b HN.out, HB.out⟩
  by_cases hu : un = 64
  rotate_left
  · have HN : Hid (rightB ⟨j, i, g, p⟩ m = false) := Lib.hid (not_ulen (by rw [HUN.out]; exact hu))
    have hne : ((on_ : Int) != g) = false := by simp [ho]
    have hne2 : ((un : Int) != 64) = true := by simp; omega
    go_wp2_with (first | (go_at_call 24; (with_reducible refine (HV.out _).mono ?_); rintro e w1 ⟨he, hbx⟩; obtain rfl := he; have hb := hbx.below; clear g0 g1 g2 g3 m0 m1 m2 m3; replace HG := Lib.hid (HG.out.below hb HG.out.lt); replace HM := Lib.hid (HM.out.below hb HM.out.lt); replace HB := Lib.hid (HB.out.trans (hb.mono HB.out.size)); obtain ⟨g0, g1, g2, g3⟩ := four_cells HG.out; obtain ⟨m0, m1, m2, m3⟩ := four_cells HM.out; clear hb hbx) | (go_at_call 37; (with_reducible refine (HR.out _ HB.out).mono ?_); rintro e w2 ⟨he, hb⟩; obtain rfl := he; clear g0 g1 g2 g3 m0 m1 m2 m3; replace HG := Lib.hid (HG.out.below hb HG.out.lt); replace HM := Lib.hid (HM.out.below hb HM.out.lt); replace HB := Lib.hid (HB.out.trans (hb.mono HB.out.size)); obtain ⟨g0, g1, g2, g3⟩ := four_cells HG.out; obtain ⟨m0, m1, m2, m3⟩ := four_cells HM.out; clear hb))
    go_ret
    exact ⟨ret_b HN.out, HB.out⟩
  subst hu
  by_cases hi : (in_ : Int) = i
  rotate_left
  · have HN : Hid (rightB ⟨j, i, g, p⟩ m = false) := Lib.hid (not_ilen (by rw [HIN.out]; exact hi))
    have hne : ((on_ : Int) != g) = false := by simp [ho]
    have hne3 : ((in_ : Int) != i) = true := by simp [hi]
    go_wp2_with (first | (go_at_call 24; (with_reducible refine (HV.out _).mono ?_); rintro e w1 ⟨he, hbx⟩; obtain rfl := he; have hb := hbx.below; clear g0 g1 g2 g3 m0 m1 m2 m3; replace HG := Lib.hid (HG.out.below hb HG.out.lt); replace HM := Lib.hid (HM.out.below hb HM.out.lt); replace HB := Lib.hid (HB.out.trans (hb.mono HB.out.size)); obtain ⟨g0, g1, g2, g3⟩ := four_cells HG.out; obtain ⟨m0, m1, m2, m3⟩ := four_cells HM.out; clear hb hbx) | (go_at_call 37; (with_reducible refine (HR.out _ HB.out).mono ?_); rintro e w2 ⟨he, hb⟩; obtain rfl := he; clear g0 g1 g2 g3 m0 m1 m2 m3; replace HG := Lib.hid (HG.out.below hb HG.out.lt); replace HM := Lib.hid (HM.out.below hb HM.out.lt); replace HB := Lib.hid (HB.out.trans (hb.mono HB.out.size)); obtain ⟨g0, g1, g2, g3⟩ := four_cells HG.out; obtain ⟨m0, m1, m2, m3⟩ := four_cells HM.out; clear hb))
    go_ret
    exact ⟨ret_b HN.out, HB.out⟩
  have HOE := Lib.hid ho
  have HIE := Lib.hid hi
  have hne : ((on_ : Int) != g) = false := by simp [ho]
  have hne3 : ((in_ : Int) != i) = false := by simp [hi]
  obtain ⟨gp, hgp⟩ : ∃ gp : Nat, g * p = (gp : Int) := ⟨(g * p).toNat, by omega⟩
  have HGP := Lib.hid hgp
  have hgp512 : gp ≤ 512 := by omega
  have hon64 : on_ ≤ 64 := by omega
  have hin64 : in_ ≤ 64 := by omega
  clear ho hi hgp hgp1 hgp2 hg1 hg2 hi1 hi2
  go_wp2_with (first | (go_at_call 24; (with_reducible refine (HV.out _).mono ?_); rintro e w1 ⟨he, hbx⟩; obtain rfl := he; have hb := hbx.below; clear g0 g1 g2 g3 m0 m1 m2 m3; replace HG := Lib.hid (HG.out.below hb HG.out.lt); replace HM := Lib.hid (HM.out.below hb HM.out.lt); replace HB := Lib.hid (HB.out.trans (hb.mono HB.out.size)); obtain ⟨g0, g1, g2, g3⟩ := four_cells HG.out; obtain ⟨m0, m1, m2, m3⟩ := four_cells HM.out; clear hb hbx) | (go_at_call 37; (with_reducible refine (HR.out _ HB.out).mono ?_); rintro e w2 ⟨he, hb⟩; obtain rfl := he; clear g0 g1 g2 g3 m0 m1 m2 m3; replace HG := Lib.hid (HG.out.below hb HG.out.lt); replace HM := Lib.hid (HM.out.below hb HM.out.lt); replace HB := Lib.hid (HB.out.trans (hb.mono HB.out.size)); obtain ⟨g0, g1, g2, g3⟩ := four_cells HG.out; obtain ⟨m0, m1, m2, m3⟩ := four_cells HM.out; clear hb))
  clear hne hne3
  go_loop [5] (fun k => ∃ a : Nat, k = .int .i64 (a : Int) ∧ a ≤ on_ ∧ Hid (∀ x ∈ m.own.take a, 0 ≤ x ∧ x ≤ 16)) (fun k => on_ - (intOf k).toNat)
  case atStart => exact ⟨0, rfl, Nat.zero_le _, Lib.hid take_none⟩
  case round =>
    obtain ⟨a, rfl, ha, HA⟩ := hrel
    by_cases hlt : a < on_
    · obtain ⟨x, hx⟩ : ∃ x, m.own[a]? = some x := ⟨_, List.getElem?_eq_getElem (by rw [HON.out]; exact hlt)⟩
      obtain ⟨b, o, hoA, hbb⟩ := rd_first HL.out.own (by rw [Inode.length_intsV, HON.out]; omega)
      have hoA : oA = some ⟨b, o, none⟩ := hoA
      subst hoA
      have hcx := rd_int (HL.out.own.below HB.out) hx
      have hcx := hcx
      have HX := Lib.hid hx
      have hlti : (a : Int) < (on_ : Int) := by omega
      clear hx
      by_cases h0 : x < 0
      · have HN : Hid (rightB ⟨j, i, g, p⟩ m = false) := Lib.hid (not_own HX.out (by omega))
        go_wp2
        go_ret
        exact ⟨ret_b HN.out, HB.out⟩
      · by_cases h1 : 16 < x
        · have HN : Hid (rightB ⟨j, i, g, p⟩ m = false) := Lib.hid (not_own HX.out (by omega))
          go_wp2
          go_ret
          exact ⟨ret_b HN.out, HB.out⟩
        · have HA2 : Hid (∀ x ∈ m.own.take (a + 1), 0 ≤ x ∧ x ≤ 16) := Lib.hid (take_all HA.out HX.out (by omega))
          go_wp2
          go_round
          case rel => exact ⟨a + 1, by go_num, hlt, HA2⟩
          case measure => simp [intOf]; omega
    · obtain rfl : on_ = a := by omega
      have HOW : Hid (∀ x ∈ m.own, 0 ≤ x ∧ x ≤ 16) := Lib.hid (by have := HA.out; rwa [List.take_of_length_le (by rw [HON.out]; exact Nat.le_refl _)] at this)
      clear HA
      have hgp := HGP.out
      have hgw : IntKind.i64.wrap (gp : Int) = (gp : Int) := by rw [IntKind.wrap_i64]; omega
      go_wp2
      clear hgp hgw
      go_loop [6] (fun k => ∃ a : Nat, k = .int .i64 (a : Int) ∧ gp ≤ a ∧ a ≤ 512 ∧ Hid (∀ t, gp ≤ t → t < a → Bits.hb m.used t = false)) (fun k => 512 - (intOf k).toNat)
      case atStart => exact ⟨gp, rfl, Nat.le_refl _, hgp512, Lib.hid (fun t h1 h2 => by omega)⟩
      case round =>
        obtain ⟨a, rfl, hga, ha, HA⟩ := hrel
        by_cases hlt : a < 512
        · have hlti : (a : Int) < 512 := by omega
          have HHA : Hid (∀ u : World, Below w.heap.size w u → Calls Try.prog 38 #[.slice uA 64 uc, .int .i64 (a : Int)] u fun e w' => e = .returned (.bool (Bits.hb m.used a)) ∧ u = w') := Lib.hid (fun u hu => by
            have := Bits.rhas_any m.used uA 64 uc w.heap.size (a : Int) u HUN.out (HL.out.used.below hu) (by omega)
            rwa [Bits.hbI_nat] at this)
          cases hbt : Bits.hb m.used a
          · have HA2 : Hid (∀ t, gp ≤ t → t < a + 1 → Bits.hb m.used t = false) := Lib.hid (fun t h1 h2 => by
              by_cases e : t = a
              · rw [e]; exact hbt
              · exact HA.out t h1 (by omega))
            rw [hbt] at HHA
            clear hbt
            go_wp2_with (go_at_call 38; (with_reducible refine (HHA.out _ HB.out).mono ?_); rintro e w3 ⟨he, hw⟩; obtain rfl := he; subst hw)
            go_round
            case rel => exact ⟨a + 1, by go_num, by omega, hlt, HA2⟩
            case measure => simp [intOf]; omega
          · have HN : Hid (rightB ⟨j, i, g, p⟩ m = false) := Lib.hid (not_used (k := a) (by show g * p ≤ _; rw [HGP.out]; omega) hlt hbt)
            rw [hbt] at HHA
            clear hbt
            go_wp2_with (go_at_call 38; (with_reducible refine (HHA.out _ HB.out).mono ?_); rintro e w3 ⟨he, hw⟩; obtain rfl := he; subst hw)
            go_ret
            exact ⟨ret_b HN.out, HB.out⟩
        · obtain rfl : a = 512 := by omega
          have HUS := HA
          clear HA hga ha hlt
          go_wp2
          go_loopw [7] (fun k wr => ∃ a : Nat, k = .int .i64 (a : Int) ∧ a ≤ in_ ∧ Hid (∀ n ∈ m.ino.take a, Inode.Right n) ∧ Hid (Bk wr (w.heap.size + 1) 29 [.slice rA rn rc, .slice oA on_ oc, .slice uA 64 uc, .slice iA in_ ic]) ∧ Below w.heap.size w wr) (fun k _ => in_ - (intOf k).toNat)
          case atStart => exact ⟨0, rfl, Nat.zero_le _, Lib.hid take_none, HM, HB.out⟩
          case round =>
            obtain ⟨a, rfl, ha, HA, HM3, hb3⟩ := hrel
            have HB3 := Lib.hid hb3
            obtain ⟨n0, n1, n2, n3⟩ := four_cells HM3.out
            clear m0 m1 m2 m3 g0 g1 g2 g3 hb3
            by_cases hlt : a < in_
            · obtain ⟨x, hx⟩ : ∃ x, m.ino[a]? = some x := ⟨_, List.getElem?_eq_getElem (by rw [HIN.out]; exact hlt)⟩
              have hox := HO.out.ino x (List.mem_of_getElem? hx)
              obtain ⟨b, o, hoA, hbb⟩ := rd_first HL.out.ino (by rw [length_inosV HO.out.ino, HIN.out]; omega)
              have hoA : iA = some ⟨b, o, none⟩ := hoA
              subst hoA
              have hra := Lib.hid (rd_ino (HL.out.ino.below HB3.out) HO.out.ino hx)
              have HX := Lib.hid hx
              have hlti : (a : Int) < (in_ : Int) := by omega
              have HI : Hid (∀ u : World, Calls Try.prog 39 #[.agg (Inode.cellsI x).toArray] u fun e w' => e = .returned (.bool (Inode.rightB x)) ∧ Below u.heap.size u w') := Lib.hid (fun u => Inode.rright_any x hox u)
              have HSZ : Hid ((Try.prog.info? 52).map (·.size) = some (Inode.cellsI x).length) := Lib.hid (by rw [size_ino, Inode.length_cellsI hox])
              clear hx hox
              generalize Inode.cellsI x = cs at *
              cases hrx : Inode.rightB x
              · have HN : Hid (rightB ⟨j, i, g, p⟩ m = false) := Lib.hid (not_ino HX.out hrx)
                rw [hrx] at HI
                clear hrx
                go_wp2_with (first
                  | (refine wpList_load_mid rfl 52 (.tmp 87) rfl b (o + a * 14) rfl cs _ hra.out Try.underlying52 rfl HSZ.out ?_)
                  | (go_at_call 39; (with_reducible refine (HI.out _).mono ?_); rintro e w4 ⟨he, hb⟩; obtain rfl := he; have HB4 := Lib.hid (HB3.out.trans (hb.mono HB3.out.size)); clear hb))
                go_ret
                exact ⟨ret_b HN.out, HB4.out⟩
              · have HA2 : Hid (∀ n ∈ m.ino.take (a + 1), Inode.Right n) := Lib.hid (take_all HA.out HX.out (rightB_or x hrx))
                rw [hrx] at HI
                clear hrx
                go_wp2_with (first
                  | (refine wpList_load_mid rfl 52 (.tmp 87) rfl b (o + a * 14) rfl cs _ hra.out Try.underlying52 rfl HSZ.out ?_)
                  | (go_at_call 39; (with_reducible refine (HI.out _).mono ?_); rintro e w4 ⟨he, hb⟩; obtain rfl := he; have HB4 := Lib.hid (HB3.out.trans (hb.mono HB3.out.size)); have HM4 := Lib.hid (HM3.out.below hb HM3.out.lt); clear hb))
                go_roundw
                case rel => exact ⟨a + 1, by go_num, hlt, HA2, HM4, HB4.out⟩
                case measure => simp [intOf]; omega
            · obtain rfl : a = in_ := by omega
              have hall : ∀ n ∈ m.ino, Inode.Right n := by have := HA.out; rwa [List.take_of_length_le (by rw [HIN.out]; exact Nat.le_refl _)] at this
              have HN : Hid (rightB ⟨j, i, g, p⟩ m = true) := Lib.hid (rightB_yes ⟨HGO.out, rightR_or _ HRB.out, by rw [HON.out]; exact HOE.out, HOW.out, HUN.out, fun k h1 h2 => HUS.out k (by have := HGP.out; have h1 : g * p ≤ (k : Int) := h1; omega) h2, by rw [HIN.out]; exact HIE.out, hall⟩)
              clear hall
              go_wp2
              go_ret
              exact ⟨ret_b HN.out, HB3.out⟩
theorem rright_any (G : Geo) (m : Met) (ho : Okm m) (x : Mem) (w : World) (hl : Lies w w.heap.size x m) (hs : m.own.length ≤ 1000000 ∧ m.used.length ≤ 1000000 ∧ m.ino.length ≤ 1000000) :
    Calls Try.prog 17 #[.agg #[.int .i64 G.j, .int .i64 G.i, .int .i64 G.g, .int .i64 G.p], x.v m] w fun e w' => e = .returned (.bool (rightB G m)) ∧ Below w.heap.size w w' :=
  rright_in G.j G.i G.g G.p m ho x.rA x.oA x.uA x.iA _ x.rc _ x.oc _ x.uc _ x.ic w rfl rfl rfl rfl hl hs
end Go.Proofs.Ytaflpigpeckhoaa.Meta
