/-
  The first block that is not in use in a label's groups; the first group without an owner.
-/
import Derived.Test.YtcjkbmmjpkghlaaGreatQVolD
namespace Go.Proofs.YtcjkbmmjpkghlaaGreat.Vol
open Go.RowKit Keep Meta

def grpF (pp : Nat) (m : Meta.Met) (a q : Nat) : Option Nat :=
  match m.own[q]? with
  | some o => if 0 < o then (match m.rows[(o - 1).toNat]? with
    | some y => if y.lab = a then Bits.fst m.used ((q : Int) * (pp : Int)) ((q : Int) * (pp : Int) + (pp : Int)) false (8 * m.used.length) else none
    | none => none) else none
  | none => none
def unu (pp : Nat) (m : Meta.Met) (a : Nat) : Option Nat := (List.range m.own.length).findSome? (grpF pp m a)
theorem unu_hit {pp : Nat} {m : Meta.Met} {a q n : Nat} (hq : q < m.own.length) (h : grpF pp m a q = some n) (h0 : ∀ k, k < q → grpF pp m a k = none) : unu pp m a = some n := by
  unfold unu
  obtain ⟨k, hk⟩ : ∃ k, m.own.length = q + (1 + k) := ⟨m.own.length - (q + 1), by omega⟩
  have e : List.range m.own.length = List.range q ++ (q :: (List.range k).map (q + 1 + ·)) := by
    rw [hk, List.range_add, Nat.add_comm 1, List.range_succ_eq_map]
    simp [Nat.add_comm, Nat.add_left_comm, Function.comp_def]
  rw [e, List.findSome?_append, List.findSome?_eq_none_iff.2 (fun k hk => h0 k (List.mem_range.1 hk))]
  simp [h]
theorem unu_none {pp : Nat} {m : Meta.Met} {a : Nat} (h0 : ∀ k, k < m.own.length → grpF pp m a k = none) : unu pp m a = none :=
  List.findSome?_eq_none_iff.2 (fun k hk => h0 k (List.mem_range.1 hk))
theorem grp_zero {pp : Nat} {m : Meta.Met} {a q : Nat} (h : m.own[q]? = some 0) : grpF pp m a q = none := by unfold grpF; rw [h]; rfl
theorem grp_row {pp : Nat} {m : Meta.Met} {a q r : Nat} {y : Intern.Rw} (h : m.own[q]? = some ((r : Int) + 1)) (hy : m.rows[r]? = some y) : grpF pp m a q = if y.lab = a then Bits.fst m.used ((q : Int) * (pp : Int)) ((q : Int) * (pp : Int) + (pp : Int)) false (8 * m.used.length) else none := by
  unfold grpF
  rw [h]
  simp only
  rw [if_pos (by omega), show ((r : Int) + 1 - 1).toNat = r by omega, hy]
set_option maxRecDepth 100000 in
set_option maxHeartbeats 6400000 in
theorem unused_ok {j i g pp : Nat} (hvg : VG j i g pp) {P : Nat → Prop} {w : World} {bv bm b bj c : Nat} {x : Meta.Mem} {m : Meta.Met} {be : Value} {A : Option Addr} {dead : Bool} (h : Vs P w bv x m bm (restC j i g pp b bj be A c dead)) (a : Nat) (hl : m.rows.length = 16) (hg : m.own.length = g) (hu : m.used.length = 64)
    (hown : ∀ (q : Nat) (o : Int), m.own[q]? = some o → o = 0 ∨ ∃ (r : Nat) (y : Intern.Rw), o = (r : Int) + 1 ∧ m.rows[r]? = some y) :
    Calls Tryz.prog 83 #[.pointer (some ⟨bv, 0, none⟩), .int .u16 (a : Int)] w fun e w' => e = .returned (.tuple #[.int .i64 (((unu pp m a).getD 0 : Nat) : Int), .bool (unu pp m a).isSome]) ∧ Below w.heap.size w w' := by
  have hg64 : g ≤ 64 := by have := hvg.v.g2; omega
  have hgp := hvg.v.gp
  have hqp : ∀ q, q < g → (q : Int) * (pp : Int) + (pp : Int) ≤ 512 := fun q hq => by
    have h1 : (q + 1) * pp ≤ g * pp := Nat.mul_le_mul_right _ hq
    rw [← Int.natCast_mul] at hgp
    rw [← Int.natCast_mul]
    rw [Nat.add_mul, Nat.one_mul] at h1
    omega
  have HV := Lib.hid h
  have HO := Lib.hid hown
  have HG := Lib.hid hg
  have HU := Lib.hid hu
  have HQP := Lib.hid hqp
  have HLB : Hid (∀ (u : World) (q r : Nat) (y : Intern.Rw), Below w.heap.size w u → m.own[q]? = some ((r : Int) + 1) → m.rows[r]? = some y → Calls Tryz.prog 141 #[.pointer (some ⟨bv, 0, none⟩), .int .i64 (q : Int)] u fun e w' => e = .returned (.int .u16 (y.lab : Int)) ∧ Below u.heap.size u w') := Lib.hid (fun u q r y hb h1 h2 => by
    refine (label_ok (h.below hb) q r y h1 h2 hl (by omega)).mono ?_
    rintro e w' ⟨he, k, rfl⟩
    exact ⟨he, below_drewN (Below.refl _ _) k⟩)
  have HFI : Hid (∀ (u : World) (s t : Int), Below w.heap.size w u → s ≤ 512 → Calls Tryz.prog 142 #[.slice x.uA 64 x.uc, .int .i64 s, .int .i64 t, .bool false] u fun e w' => e = .returned (.tuple #[.int .i64 (((Bits.fst m.used s t false (8 * m.used.length)).getD 0 : Nat) : Int), .bool (Bits.fst m.used s t false (8 * m.used.length)).isSome]) ∧ Below u.heap.size u w') := Lib.hid (fun u s t hb hs => by
    have := Bits.first_any m.used x.uA 64 x.uc u.heap.size s t false u hu ((h.below hb).met.lies.used) (by omega) (by omega)
    refine this.mono ?_
    rintro e w' ⟨he, k, rfl⟩
    exact ⟨he, below_drewN (Below.refl _ _) k⟩)
  clear h hown hl hu hgp
  obtain ⟨c0, c1, c2, c3, c4⟩ := HV.out.cells
  obtain ⟨b2, o2, hA, -⟩ := rd_first HV.out.met.lies.own (by rw [Inode.length_intsV, hg]; have := hvg.v.g1; omega)
  rw [hg, hA] at c1
  have HA := Lib.hid hA
  clear hA
  have HG64 := Lib.hid hg64
  clear hg hg64 hqp hvg
  obtain ⟨res, hres⟩ : ∃ res, unu pp m a = res := ⟨_, rfl⟩
  rw [hres]
  have HRES := Lib.hid hres
  clear hres
  go_enter Tryz.func83, Tryz.ntmps83
  go_wp2
  clear c0 c1 c2 c3 c4
  go_loopw [6, 7, 8, 9, 10, 18] (fun _ _ _ _ _ kc wr => ∃ q : Nat, kc = .int .i64 (q : Int) ∧ q ≤ g ∧ Hid (Below w.heap.size w wr) ∧ Hid (∀ k, k < q → grpF pp m a k = none)) (fun _ _ _ _ _ kc _ => g - (intOf kc).toNat)
  case atStart => exact ⟨0, rfl, Nat.zero_le _, Lib.hid (Below.refl _ _), Lib.hid (fun k hk => by omega)⟩
  case round =>
    obtain ⟨q, rfl, hq, HB, HNO⟩ := hrel
    have HVR := Lib.hid (HV.out.below HB.out)
    obtain ⟨c0, c1, c2, c3, c4⟩ := HVR.out.cells
    obtain ⟨g0, g1, g2, g3⟩ := HVR.out.geo
    by_cases hlt : q < g
    · obtain ⟨o, ho⟩ : ∃ o, m.own[q]? = some o := ⟨_, List.getElem?_eq_getElem (by rw [HG.out]; exact hlt)⟩
      have hlo := HVR.out.met.lies.own
      rw [HA.out] at hlo c1
      have hco := rd_int hlo ho
      rw [HG.out] at c1
      rw [HU.out] at c2
      have hqp := HQP.out q hlt
      have hq0 : (0 : Int) ≤ (q : Int) := by omega
      have hlti : (q : Int) < (g : Int) := by omega
      have hiw : IntKind.i64.wrap ((q : Int) + 1) = ((q + 1 : Nat) : Int) := by rw [IntKind.wrap_i64]; have := HG64.out; omega
      have hpos : (0 : Int) ≤ (q : Int) * (pp : Int) := Int.mul_nonneg (by omega) (by omega)
      have hmw : IntKind.i64.wrap ((q : Int) * (pp : Int)) = (q : Int) * (pp : Int) := by rw [IntKind.wrap_i64]; omega
      have haw : IntKind.i64.wrap ((q : Int) * (pp : Int) + (pp : Int)) = (q : Int) * (pp : Int) + (pp : Int) := by rw [IntKind.wrap_i64]; omega
      rcases HO.out q o ho with h0 | ⟨r, y, h1, hy⟩
      · subst h0
        have HNO1 : Hid (∀ k, k < q + 1 → grpF pp m a k = none) := Lib.hid (fun k hk => by
          rcases Nat.lt_or_ge k q with h | h
          · exact HNO.out k h
          · obtain rfl : k = q := by omega
            exact grp_zero ho)
        clear ho hlo HNO hpos hqp hmw haw g0 g1 g2 g3 c0 c2 c3 c4
        go_wp2
        go_roundw
        case rel => exact ⟨q + 1, by first | rfl | (congr 1), hlt, HB, HNO1⟩
        case measure => simp [intOf]; omega
      · subst h1
        have hgr := grp_row (pp := pp) (a := a) ho hy
        have hne0 : ((r : Int) + 1 == 0) = false := by simp; omega
        have HLX := Lib.hid (HLB.out wr q r y HB.out ho hy)
        have HOQ := Lib.hid ho
        clear ho hlo
        by_cases hla : y.lab = a
        · subst hla
          have hgr2 : grpF pp m y.lab q = Bits.fst m.used ((q : Int) * (pp : Int)) ((q : Int) * (pp : Int) + (pp : Int)) false (8 * m.used.length) := by rw [hgr, if_pos rfl]
          have HFX := Lib.hid (fun u hu => HFI.out u ((q : Int) * (pp : Int)) ((q : Int) * (pp : Int) + (pp : Int)) hu (by omega))
          generalize hfo : Bits.fst m.used ((q : Int) * (pp : Int)) ((q : Int) * (pp : Int) + (pp : Int)) false (8 * m.used.length) = fo at *
          have HGR := Lib.hid hgr2
          clear hgr2 hgr hfo hpos hqp hy
          go_upto_region 6 with (go_at_call 141; (with_reducible refine HLX.out.mono ?_); rintro e w2 ⟨he, hb⟩; obtain rfl := he; have HB2 := Lib.hid (HB.out.trans (hb.mono HB.out.size)); clear hb c0 c1 c2 c3 c4 g0 g1 g2 g3; obtain ⟨g0, g1, g2, g3⟩ := (HV.out.below HB2.out).geo)
          clear g0 g1 g2 g3
          have hS0 : Below w.heap.size w w2.drew := HB2.out.drew
          refine wp_region_held_drew (S := fun u => Below w.heap.size w u) (by kernel_rfl) hS0 (fun hHeld => ?_)
          clear hS0
          generalize hu0 : w2.drew = z0_ at *
          clear hu0
          refine wpAnyH_take (i := 0) (oi := _) (v := ?_) (by simp only [List.getElem?_toArray, List.getElem?_cons_zero]; rfl) (by kernel_rfl) (by kernel_rfl) (by kernel_rfl) (by exact fun _ _ _ h => h) (Or.inl ⟨by rfl, ?hya0⟩) (by exact hHeld) ?rea0
          case hya0 => (intro u hu; obtain ⟨c0, c1, c2, c3, c4⟩ := (HV.out.below hu).cells; obtain ⟨g0, g1, g2, g3⟩ := (HV.out.below hu).geo; rw [HU.out] at c2; clear hu c0 c1 c3 c4; go_simp <;> with_reducible rfl)
          try simp only [Act.put, List.setIfInBounds_toArray, List.set_cons_zero, List.set_cons_succ]
          refine wpAnyH_take (i := 1) (oi := _) (v := ?_) (by simp only [List.getElem?_toArray, List.getElem?_cons_succ, List.getElem?_cons_zero]; rfl) (by kernel_rfl) (by kernel_rfl) (by kernel_rfl) (by exact fun _ _ _ h => h) (Or.inl ⟨by rfl, ?hya1⟩) (by exact hHeld) ?rea1
          case hya1 => (intro u hu; obtain ⟨c0, c1, c2, c3, c4⟩ := (HV.out.below hu).cells; obtain ⟨g0, g1, g2, g3⟩ := (HV.out.below hu).geo; rw [HU.out] at c2; clear hu c0 c1 c3 c4; go_simp <;> with_reducible rfl)
          try simp only [Act.put, List.setIfInBounds_toArray, List.set_cons_zero, List.set_cons_succ]
          refine wpAnyH_take (i := 2) (oi := _) (v := ?_) (by simp only [List.getElem?_toArray, List.getElem?_cons_succ, List.getElem?_cons_zero]; rfl) (by kernel_rfl) (by kernel_rfl) (by kernel_rfl) (by exact fun _ _ _ h => h) (Or.inl ⟨by rfl, ?hya2⟩) (by exact hHeld) ?rea2
          case hya2 => (intro u hu; obtain ⟨c0, c1, c2, c3, c4⟩ := (HV.out.below hu).cells; obtain ⟨g0, g1, g2, g3⟩ := (HV.out.below hu).geo; rw [HU.out] at c2; clear hu c0 c1 c3 c4; go_simp <;> with_reducible rfl)
          try simp only [Act.put, List.setIfInBounds_toArray, List.set_cons_zero, List.set_cons_succ]
          refine wpAnyH_take (i := 3) (oi := _) (v := ?_) (by simp only [List.getElem?_toArray, List.getElem?_cons_succ, List.getElem?_cons_zero]; rfl) (by kernel_rfl) (by kernel_rfl) (by kernel_rfl) (by exact fun _ _ _ h => h) (Or.inl ⟨by rfl, ?hya3⟩) (by exact hHeld) ?rea3
          case hya3 => (intro u hu; obtain ⟨c0, c1, c2, c3, c4⟩ := (HV.out.below hu).cells; obtain ⟨g0, g1, g2, g3⟩ := (HV.out.below hu).geo; rw [HU.out] at c2; clear hu c0 c1 c3 c4; go_simp <;> with_reducible rfl)
          try simp only [Act.put, List.setIfInBounds_toArray, List.set_cons_zero, List.set_cons_succ]
          refine wpAnyH_take (i := 4) (oi := _) (v := ?_) (by simp only [List.getElem?_toArray, List.getElem?_cons_succ, List.getElem?_cons_zero]; rfl) (by kernel_rfl) (by kernel_rfl) (by kernel_rfl) (by exact fun _ _ _ h => h) (Or.inl ⟨by rfl, ?hya4⟩) (by exact hHeld) ?rea4
          case hya4 => (intro u hu; obtain ⟨c0, c1, c2, c3, c4⟩ := (HV.out.below hu).cells; obtain ⟨g0, g1, g2, g3⟩ := (HV.out.below hu).geo; rw [HU.out] at c2; clear hu c0 c1 c3 c4; go_simp <;> with_reducible rfl)
          try simp only [Act.put, List.setIfInBounds_toArray, List.set_cons_zero, List.set_cons_succ]
          refine wpAnyH_take (i := 5) (oi := _) (v := ?_) (by simp only [List.getElem?_toArray, List.getElem?_cons_succ, List.getElem?_cons_zero]; rfl) (by kernel_rfl) (by kernel_rfl) (by kernel_rfl) (by exact fun _ _ _ h => h) (Or.inl ⟨by rfl, ?hya5⟩) (by exact hHeld) ?rea5
          case hya5 => (intro u hu; obtain ⟨c0, c1, c2, c3, c4⟩ := (HV.out.below hu).cells; obtain ⟨g0, g1, g2, g3⟩ := (HV.out.below hu).geo; rw [HU.out] at c2; clear hu c0 c1 c3 c4; go_simp <;> with_reducible rfl)
          try simp only [Act.put, List.setIfInBounds_toArray, List.set_cons_zero, List.set_cons_succ]
          refine wpAnyH_take (i := 6) (oi := _) (v := ?_) (by simp only [List.getElem?_toArray, List.getElem?_cons_succ, List.getElem?_cons_zero]; rfl) (by kernel_rfl) (by kernel_rfl) (by kernel_rfl) (by exact fun _ _ _ h => h) (Or.inl ⟨by rfl, ?hya6⟩) (by exact hHeld) ?rea6
          case hya6 => (intro u hu; obtain ⟨c0, c1, c2, c3, c4⟩ := (HV.out.below hu).cells; obtain ⟨g0, g1, g2, g3⟩ := (HV.out.below hu).geo; rw [HU.out] at c2; clear hu c0 c1 c3 c4; go_simp <;> with_reducible rfl)
          try simp only [Act.put, List.setIfInBounds_toArray, List.set_cons_zero, List.set_cons_succ]
          refine wpAnyH_take (i := 7) (oi := _) (v := ?_) (by simp only [List.getElem?_toArray, List.getElem?_cons_succ, List.getElem?_cons_zero]; rfl) (by kernel_rfl) (by kernel_rfl) (by kernel_rfl) (by exact fun _ _ _ h => h) (Or.inl ⟨by rfl, ?hya7⟩) (by exact hHeld) ?rea7
          case hya7 => (intro u hu; obtain ⟨c0, c1, c2, c3, c4⟩ := (HV.out.below hu).cells; obtain ⟨g0, g1, g2, g3⟩ := (HV.out.below hu).geo; rw [HU.out] at c2; clear hu c0 c1 c3 c4; go_simp <;> with_reducible rfl)
          try simp only [Act.put, List.setIfInBounds_toArray, List.set_cons_zero, List.set_cons_succ]
          refine wpAnyH_take (i := 8) (oi := _) (v := ?_) (by simp only [List.getElem?_toArray, List.getElem?_cons_succ, List.getElem?_cons_zero]; rfl) (by kernel_rfl) (by kernel_rfl) (by kernel_rfl) (by exact fun _ _ _ h => h) (Or.inl ⟨by rfl, ?hya8⟩) (by exact hHeld) ?rea8
          case hya8 => (intro u hu; obtain ⟨c0, c1, c2, c3, c4⟩ := (HV.out.below hu).cells; obtain ⟨g0, g1, g2, g3⟩ := (HV.out.below hu).geo; rw [HU.out] at c2; clear hu c0 c1 c3 c4; go_simp <;> with_reducible rfl)
          try simp only [Act.put, List.setIfInBounds_toArray, List.set_cons_zero, List.set_cons_succ]
          refine wpAnyH_take (i := 9) (oi := _) (v := ?_) (by simp only [List.getElem?_toArray, List.getElem?_cons_succ, List.getElem?_cons_zero]; rfl) (by kernel_rfl) (by kernel_rfl) (by kernel_rfl) (by exact fun _ _ _ h => h) (Or.inl ⟨by rfl, ?hya9⟩) (by exact hHeld) ?rea9
          case hya9 => (intro u hu; obtain ⟨c0, c1, c2, c3, c4⟩ := (HV.out.below hu).cells; obtain ⟨g0, g1, g2, g3⟩ := (HV.out.below hu).geo; rw [HU.out] at c2; clear hu c0 c1 c3 c4; go_simp <;> with_reducible rfl)
          try simp only [Act.put, List.setIfInBounds_toArray, List.set_cons_zero, List.set_cons_succ]
          refine wpAnyH_take (i := 10) (oi := _) (v := ?_) (by simp only [List.getElem?_toArray, List.getElem?_cons_succ, List.getElem?_cons_zero]; rfl) (by kernel_rfl) (by kernel_rfl) (by kernel_rfl) (by exact fun _ _ _ h => h) (Or.inl ⟨by rfl, ?hya10⟩) (by exact hHeld) ?rea10
          case hya10 => (intro u hu; obtain ⟨c0, c1, c2, c3, c4⟩ := (HV.out.below hu).cells; obtain ⟨g0, g1, g2, g3⟩ := (HV.out.below hu).geo; rw [HU.out] at c2; clear hu c0 c1 c3 c4; go_simp <;> with_reducible rfl)
          try simp only [Act.put, List.setIfInBounds_toArray, List.set_cons_zero, List.set_cons_succ]
          refine wpAnyH_take (i := 11) (oi := _) (v := ?_) (by simp only [List.getElem?_toArray, List.getElem?_cons_succ, List.getElem?_cons_zero]; rfl) (by kernel_rfl) (by kernel_rfl) (by kernel_rfl) (by exact fun _ _ _ h => h) (Or.inl ⟨by rfl, ?hya11⟩) (by exact hHeld) ?rea11
          case hya11 => (intro u hu; obtain ⟨c0, c1, c2, c3, c4⟩ := (HV.out.below hu).cells; obtain ⟨g0, g1, g2, g3⟩ := (HV.out.below hu).geo; rw [HU.out] at c2; clear hu c0 c1 c3 c4; go_simp <;> with_reducible rfl)
          try simp only [Act.put, List.setIfInBounds_toArray, List.set_cons_zero, List.set_cons_succ]
          refine wpAnyH_take (i := 12) (oi := _) (v := ?_) (by simp only [List.getElem?_toArray, List.getElem?_cons_succ, List.getElem?_cons_zero]; rfl) (by kernel_rfl) (by kernel_rfl) (by kernel_rfl) (by exact fun _ _ _ h => h) (Or.inl ⟨by rfl, ?hya12⟩) (by exact hHeld) ?rea12
          case hya12 => (intro u hu; obtain ⟨c0, c1, c2, c3, c4⟩ := (HV.out.below hu).cells; obtain ⟨g0, g1, g2, g3⟩ := (HV.out.below hu).geo; rw [HU.out] at c2; clear hu c0 c1 c3 c4; go_simp <;> with_reducible rfl)
          try simp only [Act.put, List.setIfInBounds_toArray, List.set_cons_zero, List.set_cons_succ]
          refine wpAnyH_take (i := 13) (oi := _) (v := ?_) (by simp only [List.getElem?_toArray, List.getElem?_cons_succ, List.getElem?_cons_zero]; rfl) (by kernel_rfl) (by kernel_rfl) (by kernel_rfl) (by exact fun _ _ _ h => h) (Or.inl ⟨by rfl, ?hya13⟩) (by exact hHeld) ?rea13
          case hya13 => (intro u hu; obtain ⟨c0, c1, c2, c3, c4⟩ := (HV.out.below hu).cells; obtain ⟨g0, g1, g2, g3⟩ := (HV.out.below hu).geo; rw [HU.out] at c2; clear hu c0 c1 c3 c4; go_simp <;> with_reducible rfl)
          try simp only [Act.put, List.setIfInBounds_toArray, List.set_cons_zero, List.set_cons_succ]
          refine wpAnyH_ready (rs := [14]) (by kernel_rfl) (by simp) ?_
          refine AllReadyH.cons (o := _) (by simp only [List.getElem?_toArray, List.getElem?_cons_succ, List.getElem?_cons_zero]; rfl) (fun K hK => ?_) AllReadyH.nil
          go_simp
          (with_reducible refine (HFX.out _ hHeld).mono ?_)
          rintro e w3 ⟨he, hb⟩; obtain rfl := he
          have hS := hHeld.trans (hb.mono hHeld.size)
          clear hb
          go_simp
          refine hK.out _ _ hS (fun hHeld2 => ?_)
          clear hK K hHeld hS
          have hHeld := hHeld2
          clear hHeld2
          try simp only [Act.put, List.setIfInBounds_toArray, List.set_cons_zero, List.set_cons_succ]
          refine wpAnyH_take (i := 15) (oi := _) (v := ?_) (by simp only [List.getElem?_toArray, List.getElem?_cons_succ, List.getElem?_cons_zero]; rfl) (by kernel_rfl) (by kernel_rfl) (by kernel_rfl) (by exact fun _ _ _ h => h) (Or.inl ⟨by rfl, ?hya15⟩) (by exact hHeld) ?rea15
          case hya15 => (intro u hu; obtain ⟨c0, c1, c2, c3, c4⟩ := (HV.out.below hu).cells; obtain ⟨g0, g1, g2, g3⟩ := (HV.out.below hu).geo; rw [HU.out] at c2; clear hu c0 c1 c3 c4; go_simp <;> with_reducible rfl)
          try simp only [Act.put, List.setIfInBounds_toArray, List.set_cons_zero, List.set_cons_succ]
          refine wpAnyH_take (i := 16) (oi := _) (v := ?_) (by simp only [List.getElem?_toArray, List.getElem?_cons_succ, List.getElem?_cons_zero]; rfl) (by kernel_rfl) (by kernel_rfl) (by kernel_rfl) (by exact fun _ _ _ h => h) (Or.inl ⟨by rfl, ?hya16⟩) (by exact hHeld) ?rea16
          case hya16 => (intro u hu; obtain ⟨c0, c1, c2, c3, c4⟩ := (HV.out.below hu).cells; obtain ⟨g0, g1, g2, g3⟩ := (HV.out.below hu).geo; rw [HU.out] at c2; clear hu c0 c1 c3 c4; go_simp <;> with_reducible rfl)
          try simp only [Act.put, List.setIfInBounds_toArray, List.set_cons_zero, List.set_cons_succ]
          refine wpAnyH_take (i := 17) (oi := _) (v := ?_) (by simp only [List.getElem?_toArray, List.getElem?_cons_succ, List.getElem?_cons_zero]; rfl) (by kernel_rfl) (by kernel_rfl) (by kernel_rfl) (by exact fun _ _ _ h => h) (Or.inl ⟨by rfl, ?hya17⟩) (by exact hHeld) ?rea17
          case hya17 => (intro u hu; obtain ⟨c0, c1, c2, c3, c4⟩ := (HV.out.below hu).cells; obtain ⟨g0, g1, g2, g3⟩ := (HV.out.below hu).geo; rw [HU.out] at c2; clear hu c0 c1 c3 c4; go_simp <;> with_reducible rfl)
          try simp only [Act.put, List.setIfInBounds_toArray, List.set_cons_zero, List.set_cons_succ]
          refine wpAnyH_take (i := 18) (oi := _) (v := ?_) (by simp only [List.getElem?_toArray, List.getElem?_cons_succ, List.getElem?_cons_zero]; rfl) (by kernel_rfl) (by kernel_rfl) (by kernel_rfl) (by exact fun _ _ _ h => h) (Or.inl ⟨by rfl, ?hya18⟩) (by exact hHeld) ?rea18
          case hya18 => (intro u hu; obtain ⟨c0, c1, c2, c3, c4⟩ := (HV.out.below hu).cells; obtain ⟨g0, g1, g2, g3⟩ := (HV.out.below hu).geo; rw [HU.out] at c2; clear hu c0 c1 c3 c4; go_simp <;> with_reducible rfl)
          try simp only [Act.put, List.setIfInBounds_toArray, List.set_cons_zero, List.set_cons_succ]
          refine wpAnyH_take (i := 19) (oi := _) (v := ?_) (by simp only [List.getElem?_toArray, List.getElem?_cons_succ, List.getElem?_cons_zero]; rfl) (by kernel_rfl) (by kernel_rfl) (by kernel_rfl) (by exact fun _ _ _ h => h) (Or.inl ⟨by rfl, ?hya19⟩) (by exact hHeld) ?rea19
          case hya19 => (intro u hu; obtain ⟨c0, c1, c2, c3, c4⟩ := (HV.out.below hu).cells; obtain ⟨g0, g1, g2, g3⟩ := (HV.out.below hu).geo; rw [HU.out] at c2; clear hu c0 c1 c3 c4; go_simp <;> with_reducible rfl)
          try simp only [Act.put, List.setIfInBounds_toArray, List.set_cons_zero, List.set_cons_succ]
          refine wpAnyH_done (by kernel_rfl) ?_ _
          have HB3 := Lib.hid hHeld
          clear hHeld
          cases fo with
          | none =>
            have HNO1 : Hid (∀ k, k < q + 1 → grpF pp m y.lab k = none) := Lib.hid (fun k hk => by
              rcases Nat.lt_or_ge k q with h | h
              · exact HNO.out k h
              · obtain rfl : k = q := by omega
                exact HGR.out)
            clear hmw haw
            go_wp2
            go_roundw
            case rel => exact ⟨q + 1, by first | rfl | (congr 1), hlt, HB3, HNO1⟩
            case measure => simp [intOf]; omega
          | some n0 =>
            have hun : res = some n0 := by rw [← HRES.out]; exact unu_hit (by rw [HG.out]; exact hlt) HGR.out HNO.out
            subst hun
            clear hmw haw
            go_wp2
            refine bodyPost_ret (v := .tuple #[.int .i64 (n0 : Int), .bool true]) (by simp [results, Tryz.results83, go_sem]) rfl ?_
            exact ⟨rfl, HB3.out⟩
        · have HNO1 : Hid (∀ k, k < q + 1 → grpF pp m a k = none) := Lib.hid (fun k hk => by
            rcases Nat.lt_or_ge k q with h | h
            · exact HNO.out k h
            · obtain rfl : k = q := by omega
              rw [hgr, if_neg hla])
          have hln : ((y.lab : Int) == (a : Int)) = false := by simp; omega
          have hln2 : ¬ (y.lab : Int) = (a : Int) := by omega
          clear hgr HNO hpos hqp hmw haw g0 g1 g2 g3 c0 c2 c3 c4 hy hla
          go_wp2_with (go_at_call 141; (with_reducible refine HLX.out.mono ?_); rintro e w2 ⟨he, hb⟩; obtain rfl := he; have HB2 := Lib.hid (HB.out.trans (hb.mono HB.out.size)); clear hb)
          go_roundw
          case rel => exact ⟨q + 1, by first | rfl | (congr 1), hlt, HB2, HNO1⟩
          case measure => simp [intOf]; omega
    · obtain rfl : q = g := by omega
      have hun : res = none := by rw [← HRES.out]; exact unu_none (by rw [HG.out]; exact HNO.out)
      subst hun
      go_wp2
      refine bodyPost_ret (v := .tuple #[.int .i64 0, .bool false]) (by simp [results, Tryz.results83, go_sem]) rfl ?_
      exact ⟨rfl, HB.out⟩
end Go.Proofs.YtcjkbmmjpkghlaaGreat.Vol

/-
  The first group without an owner is claimed; a block is taken.
-/
namespace Go.Proofs.YtcjkbmmjpkghlaaGreat.Vol
open Go.RowKit Keep Meta

def idx0 (l : List Int) : Option Nat := l.findIdx? (· == 0)
theorem idx0_some {l : List Int} {q : Nat} (h : l[q]? = some 0) (h0 : ∀ k, k < q → l[k]? ≠ some 0) : idx0 l = some q := by
  obtain ⟨h1, h2⟩ := List.getElem?_eq_some_iff.1 h
  refine List.findIdx?_eq_some_iff_getElem.2 ⟨h1, by simp [h2], fun k hk => ?_⟩
  have := h0 k hk
  rw [List.getElem?_eq_getElem (by omega)] at this
  simpa using this
theorem idx0_get {l : List Int} {q : Nat} (h : idx0 l = some q) : l[q]? = some 0 := by
  obtain ⟨h1, h2, -⟩ := List.findIdx?_eq_some_iff_getElem.1 h
  rw [List.getElem?_eq_getElem h1]
  simpa using h2
theorem idx0_none {l : List Int} (h0 : ∀ k, k < l.length → l[k]? ≠ some 0) : idx0 l = none := by
  refine List.findIdx?_eq_none_iff.2 (fun x hx => ?_)
  obtain ⟨k, hk⟩ := List.getElem?_of_mem hx
  have := h0 k (List.getElem?_eq_some_iff.1 hk).1
  rw [hk] at this
  simpa using this
def idxI (o : Option Nat) : Int := match o with | some q => (q : Int) | none => -1
set_option maxRecDepth 100000 in
set_option maxHeartbeats 1600000 in
theorem index_ok (l : List Int) (b o c n : Nat) (w : World) (hl : l.length = n) (hr : Rd w w.heap.size (some ⟨b, o, none⟩) (Inode.intsV l)) (hm : n ≤ 1000000) :
    Calls Tryz.prog 143 #[.slice (some ⟨b, o, none⟩) n c, .int .i64 0] w fun e w' => e = .returned (.int .i64 (idxI (idx0 l))) ∧ w = w' := by
  have HL := Lib.hid hl
  have HR := Lib.hid hr
  have HM := Lib.hid hm
  clear hl hr hm
  obtain ⟨res, hres⟩ : ∃ res, idx0 l = res := ⟨_, rfl⟩
  rw [hres]
  have HRES := Lib.hid hres
  clear hres
  go_enter Tryz.func143, Tryz.ntmps143
  go_wp2
  go_loopw [5, 8] (fun _ kc wr => ∃ q : Nat, kc = .int .i64 (q : Int) ∧ q ≤ n ∧ wr = w ∧ Hid (∀ k, k < q → l[k]? ≠ some 0)) (fun _ kc _ => n - (intOf kc).toNat)
  case atStart => exact ⟨0, rfl, Nat.zero_le _, rfl, Lib.hid (fun k hk => by omega)⟩
  case round =>
    obtain ⟨q, rfl, hq, rfl, HNO⟩ := hrel
    by_cases hlt : q < n
    · obtain ⟨z, hz⟩ : ∃ z, l[q]? = some z := ⟨_, List.getElem?_eq_getElem (by rw [HL.out]; exact hlt)⟩
      have hco := rd_int HR.out hz
      have hq0 : (0 : Int) ≤ (q : Int) := by omega
      have hlti : (q : Int) < (n : Int) := by omega
      have hiw : IntKind.i64.wrap ((q : Int) + 1) = ((q + 1 : Nat) : Int) := by rw [IntKind.wrap_i64]; have := HM.out; omega
      by_cases h0 : z = 0
      · subst h0
        have hun : res = some q := by rw [← HRES.out]; exact idx0_some hz HNO.out
        subst hun
        clear hz
        go_wp2
        go_ret
        exact ⟨rfl, rfl⟩
      · have HNO1 : Hid (∀ k, k < q + 1 → l[k]? ≠ some 0) := Lib.hid (fun k hk => by
          rcases Nat.lt_or_ge k q with h | h
          · exact HNO.out k h
          · obtain rfl : k = q := by omega
            rw [hz]
            simpa using h0)
        have hz0 : ¬ (0 : Int) = z := fun h => h0 h.symm
        have hz1 : ((0 : Int) == z) = false := by simpa using hz0
        clear hz h0
        go_wp2
        go_roundw
        case rel => exact ⟨q + 1, by first | rfl | (congr 1), hlt, by first | trivial | rfl, HNO1⟩
        case measure => simp [intOf]; omega
    · obtain rfl : q = n := by omega
      have hun : res = none := by rw [← HRES.out]; exact idx0_none (by rw [HL.out]; exact HNO.out)
      subst hun
      go_wp2
      go_ret
      exact ⟨rfl, rfl⟩
/-- What a claim makes of what is known. -/
noncomputable def claimM (m : Meta.Met) (a q : Nat) : Meta.Met := { m with rows := (Intern.retP m.rows a).rows, own := m.own.set q (((Intern.retP m.rows a).at_ : Int) + 1) }
set_option maxRecDepth 100000 in
set_option maxHeartbeats 3200000 in
theorem claim_yes {j i g pp : Nat} (hvg : VG j i g pp) {P : Nat → Prop} {w0 w : World} {bv bm b bj c : Nat} {x : Meta.Mem} {m : Meta.Met} {be : Value} {A : Option Addr} {dead : Bool} {at_ : Int → Sx} {there : Int → Bool} {n : Nat} (h : VM P w0 w bv bm x m (restC j i g pp b bj be A c dead) at_ there n) (a q : Nat) (hg : m.own.length = g) (hq : idx0 m.own = some q) (h0 : (Intern.retP m.rows a).err = 0) (hat : (Intern.retP m.rows a).at_ ≤ 65536) :
    Calls Tryz.prog 84 #[.pointer (some ⟨bv, 0, none⟩), .int .u16 (a : Int)] w fun e w' => e = .returned (.tuple #[.int .i64 ((q : Int) * (pp : Int)), .int .i64 0]) ∧ ∃ x', VM P w0 w' bv bm x' (claimM m a q) (restC j i g pp b bj be A c dead) at_ there n := by
  have hg64 : g ≤ 64 := by have := hvg.v.g2; omega
  have hg1 := hvg.v.g1
  have hgp := hvg.v.gp
  have hqg : q < g := by have := (List.getElem?_eq_some_iff.1 (idx0_get hq)).1; omega
  obtain ⟨gb, cb, hvv, -⟩ := own_pos h.vs.met.own (by omega)
  have hxo : x.oA = some ⟨gb, 0, none⟩ := by injection hvv
  clear hvv
  have hlo := h.vs.met.lies.own
  rw [hxo] at hlo
  have HIX : Hid (Calls Tryz.prog 143 #[.slice (some ⟨gb, 0, none⟩) g x.oc, .int .i64 0] w fun e w' => e = .returned (.int .i64 (q : Int)) ∧ w = w') := Lib.hid (by
    have := index_ok m.own gb 0 x.oc g w hg hlo (by omega)
    rw [hq] at this
    exact this)
  have HRT : Hid (∀ u : World, VM P w0 u bv bm x m (restC j i g pp b bj be A c dead) at_ there n → Calls Tryz.prog 87 #[.pointer (some ⟨bv, 0, none⟩), .int .u16 (a : Int)] u fun e w' => e = .returned (.tuple #[.int .i64 ((Intern.retP m.rows a).at_ : Int), .int .i64 0]) ∧ ∃ x', x'.oA = x.oA ∧ x'.oc = x.oc ∧ VM P w0 w' bv bm x' { m with rows := (Intern.retP m.rows a).rows } (restC j i g pp b bj be A c dead) at_ there n) := Lib.hid (fun u hv => by
    refine (retain_yes hv.vs a h0).mono ?_
    rintro e w' ⟨he, ⟨A2, c2, h1⟩, h2⟩
    exact ⟨he, { x with rA := A2, rc := c2 }, rfl, rfl, hv.turn h1 h2⟩)
  have HV := Lib.hid h
  have HXO := Lib.hid hxo
  have HG := Lib.hid hg
  have HQG := Lib.hid hqg
  have hqm : (q : Int) * (pp : Int) ≤ 512 := by
    have h1 : q * pp ≤ g * pp := Nat.mul_le_mul_right _ (by omega)
    rw [← Int.natCast_mul] at hgp
    rw [← Int.natCast_mul]
    omega
  have hpos : (0 : Int) ≤ (q : Int) * (pp : Int) := Int.mul_nonneg (by omega) (by omega)
  have hmw : IntKind.i64.wrap ((q : Int) * (pp : Int)) = (q : Int) * (pp : Int) := by rw [IntKind.wrap_i64]; omega
  have haw : IntKind.i64.wrap (((Intern.retP m.rows a).at_ : Int) + 1) = ((Intern.retP m.rows a).at_ : Int) + 1 := by rw [IntKind.wrap_i64]; omega
  have hq0 : (0 : Int) ≤ (q : Int) := by omega
  have hqi : (q : Int) < (g : Int) := by omega
  obtain ⟨c0, c1, c2, c3, c4⟩ := h.vs.cells
  rw [hxo, hg] at c1
  clear h hvg h0 hat hq hlo hg64 hg1 hgp hqg hxo hg hqm hpos c0 c2 c3 c4
  have hcl : claimM m a q = { m with rows := (Intern.retP m.rows a).rows, own := m.own.set q (((Intern.retP m.rows a).at_ : Int) + 1) } := rfl
  rw [hcl]
  clear hcl
  generalize hr : Intern.retP m.rows a = r at *
  clear hr
  go_enter Tryz.func84, Tryz.ntmps84
  go_wp2_with (first | (go_at_call 143; go_must (with_reducible refine HIX.out.mono ?_); rintro e w1 ⟨he, hb⟩; obtain rfl := he; subst hb) | (go_at_call 87; go_must (with_reducible refine (HRT.out _ HV.out).mono ?_); rintro e w2 ⟨he, x2, e1, e2, hv⟩; obtain rfl := he; have HV2 := Lib.hid hv; have HX2 := Lib.hid (e1.trans HXO.out); clear c1; obtain ⟨c0, c1, c2, c3, c4⟩ := hv.vs.cells; rw [HX2.out, e2] at c1; simp only [HG.out] at c1; clear c0 c2 c3 c4; have ho := hv.vs.met.own; rw [HX2.out] at ho; obtain ⟨⟨zc, hzc⟩, hfz⟩ := own_one ho q (by rw [Nat.mul_one]; show q < m.own.length; rw [HG.out]; exact HQG.out); have VO := hv.owner HX2.out q ((r.at_ : Int) + 1); have HVO := Lib.hid VO; obtain ⟨g0, g1, g2, g3⟩ := hv.vs.geo; obtain ⟨g4, g5, g6, g7⟩ := VO.vs.geo; clear ho hv e1 e2 VO))
  refine bodyPost_ret (v := .tuple #[.int .i64 ((q : Int) * (pp : Int)), .int .i64 0]) (by simp [results, Tryz.results84, go_sem]) rfl ?_
  exact ⟨rfl, x2, HVO.out⟩
end Go.Proofs.YtcjkbmmjpkghlaaGreat.Vol

/-
  A block is taken.
-/
namespace Go.Proofs.YtcjkbmmjpkghlaaGreat.Vol
open Go.RowKit Keep Meta

def takeU (m : Meta.Met) (n0 : Nat) : Meta.Met := { m with used := Bits.wb m.used n0 true }
set_option maxRecDepth 100000 in
set_option maxHeartbeats 3200000 in
theorem alloc_hit {j i g pp : Nat} (hvg : VG j i g pp) {P : Nat → Prop} {w0 w : World} {bv bm b bj c : Nat} {x : Meta.Mem} {m : Meta.Met} {be : Value} {A : Option Addr} {dead : Bool} {at_ : Int → Sx} {there : Int → Bool} {n : Nat} (h : VM P w0 w bv bm x m (restC j i g pp b bj be A c dead) at_ there n) (a n0 : Nat) (hl : m.rows.length = 16) (hg : m.own.length = g) (hu : m.used.length = 64)
    (hown : ∀ (q : Nat) (o : Int), m.own[q]? = some o → o = 0 ∨ ∃ (r : Nat) (y : Intern.Rw), o = (r : Int) + 1 ∧ m.rows[r]? = some y) (hun : unu pp m a = some n0) (hn : n0 < 512) :
    Calls Tryz.prog 33 #[.pointer (some ⟨bv, 0, none⟩), .int .u16 (a : Int)] w fun e w' => e = .returned (.tuple #[.int .i64 (n0 : Int), .int .i64 0]) ∧ ∃ x', VM P w0 w' bv bm x' (takeU m n0) (restC j i g pp b bj be A c dead) at_ there n := by
  have HUN : Hid (Calls Tryz.prog 83 #[.pointer (some ⟨bv, 0, none⟩), .int .u16 (a : Int)] w fun e w' => e = .returned (.tuple #[.int .i64 (n0 : Int), .bool true]) ∧ Below w.heap.size w w') := Lib.hid (by
    have := unused_ok hvg h.vs a hl hg hu hown
    rwa [hun] at this)
  have HUS : Hid (∀ u : World, VM P w0 u bv bm x m (restC j i g pp b bj be A c dead) at_ there n → Calls Tryz.prog 85 #[.pointer (some ⟨bv, 0, none⟩), .int .i64 (n0 : Int), .bool true] u fun e w' => e = .returned (.tuple #[]) ∧ ∃ x', VM P w0 w' bv bm x' (takeU m n0) (restC j i g pp b bj be A c dead) at_ there n) := Lib.hid (fun u hv => by
    refine (use_ok hv.vs hu n0 hn true).mono ?_
    rintro e w' ⟨he, ⟨A2, c2, h1⟩, h2⟩
    exact ⟨he, { x with uA := A2, uc := c2 }, hv.turn h1 h2⟩)
  have HV := Lib.hid h
  clear h hvg hl hg hu hown hun hn
  go_enter Tryz.func33, Tryz.ntmps33
  go_wp2_with (first | (go_at_call 83; go_must (with_reducible refine HUN.out.mono ?_); rintro e w1 ⟨he, hb⟩; obtain rfl := he; replace HV := Lib.hid (HV.out.below hb); clear hb) | (go_at_call 85; go_must (with_reducible refine (HUS.out _ HV.out).mono ?_); rintro e w2 ⟨he, x2, hv⟩; obtain rfl := he; have HV2 := Lib.hid hv; clear hv))
  refine bodyPost_ret (v := .tuple #[.int .i64 (n0 : Int), .int .i64 0]) (by simp [results, Tryz.results33, go_sem]) rfl ?_
  exact ⟨rfl, x2, HV2.out⟩
set_option maxRecDepth 100000 in
set_option maxHeartbeats 3200000 in
theorem alloc_new {j i g pp : Nat} (hvg : VG j i g pp) {P : Nat → Prop} {w0 w : World} {bv bm b bj c : Nat} {x : Meta.Mem} {m : Meta.Met} {be : Value} {A : Option Addr} {dead : Bool} {at_ : Int → Sx} {there : Int → Bool} {n : Nat} (h : VM P w0 w bv bm x m (restC j i g pp b bj be A c dead) at_ there n) (a q : Nat) (hl : m.rows.length = 16) (hg : m.own.length = g) (hu : m.used.length = 64)
    (hown : ∀ (q : Nat) (o : Int), m.own[q]? = some o → o = 0 ∨ ∃ (r : Nat) (y : Intern.Rw), o = (r : Int) + 1 ∧ m.rows[r]? = some y) (hun : unu pp m a = none) (hq : idx0 m.own = some q) (h0 : (Intern.retP m.rows a).err = 0) (hat : (Intern.retP m.rows a).at_ ≤ 65536) :
    Calls Tryz.prog 33 #[.pointer (some ⟨bv, 0, none⟩), .int .u16 (a : Int)] w fun e w' => e = .returned (.tuple #[.int .i64 ((q * pp : Nat) : Int), .int .i64 0]) ∧ ∃ x', VM P w0 w' bv bm x' (takeU (claimM m a q) (q * pp)) (restC j i g pp b bj be A c dead) at_ there n := by
  have hqg : q < g := by have := (List.getElem?_eq_some_iff.1 (idx0_get hq)).1; omega
  have hqm : q * pp < 512 := by
    have hgp := hvg.v.gp
    have hp1 := hvg.v.p1
    have h1 : (q + 1) * pp ≤ g * pp := Nat.mul_le_mul_right _ hqg
    rw [← Int.natCast_mul] at hgp
    rw [Nat.add_mul, Nat.one_mul] at h1
    omega
  have HUN : Hid (Calls Tryz.prog 83 #[.pointer (some ⟨bv, 0, none⟩), .int .u16 (a : Int)] w fun e w' => e = .returned (.tuple #[.int .i64 0, .bool false]) ∧ Below w.heap.size w w') := Lib.hid (by
    have := unused_ok hvg h.vs a hl hg hu hown
    rwa [hun] at this)
  have HCL : Hid (∀ u : World, VM P w0 u bv bm x m (restC j i g pp b bj be A c dead) at_ there n → Calls Tryz.prog 84 #[.pointer (some ⟨bv, 0, none⟩), .int .u16 (a : Int)] u fun e w' => e = .returned (.tuple #[.int .i64 ((q * pp : Nat) : Int), .int .i64 0]) ∧ ∃ x', VM P w0 w' bv bm x' (claimM m a q) (restC j i g pp b bj be A c dead) at_ there n) := Lib.hid (fun u hv => by
    have := claim_yes hvg hv a q hg hq h0 hat
    rwa [← Int.natCast_mul] at this)
  have HUS : Hid (∀ (u : World) (x' : Meta.Mem), VM P w0 u bv bm x' (claimM m a q) (restC j i g pp b bj be A c dead) at_ there n → Calls Tryz.prog 85 #[.pointer (some ⟨bv, 0, none⟩), .int .i64 ((q * pp : Nat) : Int), .bool true] u fun e w' => e = .returned (.tuple #[]) ∧ ∃ x', VM P w0 w' bv bm x' (takeU (claimM m a q) (q * pp)) (restC j i g pp b bj be A c dead) at_ there n) := Lib.hid (fun u x' hv => by
    refine (use_ok hv.vs hu (q * pp) hqm true).mono ?_
    rintro e w' ⟨he, ⟨A2, c2, h1⟩, h2⟩
    exact ⟨he, { x' with uA := A2, uc := c2 }, hv.turn h1 h2⟩)
  have HV := Lib.hid h
  clear h hvg hl hg hu hown hun hq h0 hat hqg hqm
  have HM2 : Hid (takeU (claimM m a q) (q * pp) = takeU (claimM m a q) (q * pp)) := Lib.hid rfl
  generalize takeU (claimM m a q) (q * pp) = M2 at *
  generalize q * pp = Z at *
  clear HM2
  go_enter Tryz.func33, Tryz.ntmps33
  go_wp2_with (first | (go_at_call 83; go_must (with_reducible refine HUN.out.mono ?_); rintro e w1 ⟨he, hb⟩; obtain rfl := he; replace HV := Lib.hid (HV.out.below hb); clear hb) | (go_at_call 84; go_must (with_reducible refine (HCL.out _ HV.out).mono ?_); rintro e w2 ⟨he, x2, hv⟩; obtain rfl := he; have HV2 := Lib.hid hv; clear hv) | (go_at_call 85; go_must (with_reducible refine (HUS.out _ _ HV2.out).mono ?_); rintro e w3 ⟨he, x3, hv⟩; obtain rfl := he; have HV3 := Lib.hid hv; clear hv))
  refine bodyPost_ret (v := .tuple #[.int .i64 (Z : Int), .int .i64 0]) (by simp [results, Tryz.results33, go_sem]) rfl ?_
  exact ⟨rfl, x3, HV3.out⟩
end Go.Proofs.YtcjkbmmjpkghlaaGreat.Vol
