/-
  What is known of a new disk has its form, has nothing, and is laid as bytes 0: for every parting.
  No condition is set.
-/
import Derived.Test.YtaflpigpeckhoaaQMetaSh
namespace Go.Proofs.Ytaflpigpeckhoaa
open Go.RowKit Go.ChangeShapes Go.WideShapes Go.ChangeAt Go.Deep Go.Joins Meta

theorem lies_z (w : World) : Lies w w.heap.size memZ .z := (ownM_z w 0).lies
set_option maxRecDepth 100000 in
set_option maxHeartbeats 3200000 in
theorem new_no_walk (j i g p : Int) (hv : ¬ Super.Valid j i g p) (w : World) : Calls Try.prog 8 #[.agg #[.int .i64 j, .int .i64 i, .int .i64 g, .int .i64 p]] w fun e w' => e = .returned (.bool true) ∧ Below w.heap.size w w' := by
  have HG := Lib.hid (geo_box w j i g p)
  have HB := Lib.hid (al_below w (.cells #[.int .i64 j, .int .i64 i, .int .i64 g, .int .i64 p] 23))
  have HNEW : Hid (∀ u : World, Calls Try.prog 11 #[.agg #[.int .i64 j, .int .i64 i, .int .i64 g, .int .i64 p]] u fun e w' => HandsM u (.z, 1) e w') := Lib.hid (fun u => by
    have := new_any ⟨j, i, g, p⟩ u
    rwa [newP_no (G := ⟨j, i, g, p⟩) hv] at this)
  have HSAME : Hid (∀ (u : World) (A0 A1 A2 A3 : Option Addr) (k0 k1 k2 k3 : Nat), Lies u u.heap.size ⟨A0, k0, A1, k1, A2, k2, A3, k3⟩ .z → Calls Try.prog 15 #[.agg #[.slice A0 0 k0, .slice A1 0 k1, .slice A2 0 k2, .slice A3 0 k3], .agg #[.slice none 0 0, .slice none 0 0, .slice none 0 0, .slice none 0 0]] u fun e w' => e = .returned (.bool true) ∧ Below u.heap.size u w') := Lib.hid (fun u A0 A1 A2 A3 k0 k1 k2 k3 hl =>
    rsame_in .z Okm.z A0 A1 A2 A3 none none none none 0 k0 0 k1 0 k2 0 k3 0 0 0 0 u rfl rfl rfl rfl hl (lies_z u) (by decide))
  clear hv
  obtain ⟨g0, g1, g2, g3⟩ := four_cells HG.out
  have hltg := HG.out.lt
  go_enter Try.func8, Try.ntmps8
  go_upto_region 1 with fail
  generalize w.alloc (.cells #[.int .i64 j, .int .i64 i, .int .i64 g, .int .i64 p] 23) = W at *
  go_wp2_with (first
    | (go_at_call 9; (with_reducible refine (shown_any _).mono ?_); rintro e w1 ⟨he, hb⟩; obtain rfl := he; replace HB := Lib.hid (HB.out.trans (hb.mono HB.out.size)); replace HG := Lib.hid (HG.out.below hb HG.out.lt); clear g0 g1 g2 g3 hltg hb; obtain ⟨g0, g1, g2, g3⟩ := four_cells HG.out; have hltg := HG.out.lt)
    | (go_at_call 11; (with_reducible refine (HNEW.out _).mono ?_); rintro e w2 hh; obtain ⟨A0, k0, A1, k1, A2, k2, A3, k3, he, ho, hb⟩ := hh.got (n0 := 0) (n1 := 0) (n2 := 0) (n3 := 0) rfl rfl rfl rfl; obtain rfl := he; replace HB := Lib.hid (HB.out.trans (hb.mono HB.out.size)); replace HG := Lib.hid (HG.out.below hb HG.out.lt); have HM := Lib.hid ho; clear ho; clear g0 g1 g2 g3 hltg hb; obtain ⟨g0, g1, g2, g3⟩ := four_cells HG.out; have hltg := HG.out.lt)
    | (go_at_call 15; have hal := al_below w2 (.cells #[.slice A0 0 k0, .slice A1 0 k1, .slice A2 0 k2, .slice A3 0 k3] 29); replace HB := Lib.hid (HB.out.trans (hal.mono HB.out.size)); replace HG := Lib.hid (HG.out.below hal HG.out.lt); replace HM := Lib.hid (HM.out.below hal); have HV := Lib.hid (Bk.new w2 29 [.slice A0 0 k0, .slice A1 0 k1, .slice A2 0 k2, .slice A3 0 k3]); clear hal; (with_reducible refine (HSAME.out _ _ _ _ _ _ _ _ _ HM.out.lies).mono ?_); rintro e w3 ⟨he, hb⟩; obtain rfl := he; replace HB := Lib.hid (HB.out.trans (hb.mono HB.out.size)); replace HG := Lib.hid (HG.out.below hb HG.out.lt); replace HM := Lib.hid (HM.out.below hb); replace HV := Lib.hid (HV.out.below hb HV.out.lt); clear g0 g1 g2 g3 hltg hb; obtain ⟨g0, g1, g2, g3⟩ := four_cells HG.out; have hltg := HG.out.lt))
  go_ret
  exact ⟨rfl, HB.out⟩

set_option maxRecDepth 100000 in
set_option maxHeartbeats 3200000 in
theorem new_yes_walk (j p : Int) (gn inn : Nat) (hv : Super.Valid j (inn : Int) (gn : Int) p) (w : World) : Calls Try.prog 8 #[.agg #[.int .i64 j, .int .i64 (inn : Int), .int .i64 (gn : Int), .int .i64 p]] w fun e w' => e = .returned (.bool true) ∧ Below w.heap.size w w' := by
  have hok : Geo.Ok ⟨j, (inn : Int), (gn : Int), p⟩ := hv
  have hi1 := hv.i1
  have hi2 := hv.i2
  have hg2 := hv.g2
  obtain ⟨m, hm⟩ : ∃ m, newM ⟨j, (inn : Int), (gn : Int), p⟩ = m := ⟨_, rfl⟩
  have n0 : m.rows.length = 16 := by rw [← hm]; simp [newM]
  have n1 : m.own.length = gn := by rw [← hm]; simp [newM]
  have n2 : m.used.length = 64 := by rw [← hm]; simp [newM]
  have n3 : m.ino.length = inn := by rw [← hm]; simp [newM]
  have hrt : Meta.Right ⟨j, (inn : Int), (gn : Int), p⟩ m := by rw [← hm]; exact newM_right hok
  have hom : Okm m := by rw [← hm]; exact newM_okm _
  obtain ⟨q, hq⟩ : ∃ q : Nat, q = 3 + inn / 2 := ⟨_, rfl⟩
  have hsec : secs m = List.replicate q zero64 := by
    rw [← hm, secs_new hok, hq]
    congr 1
  have hq3 : 3 < q := by omega
  have hq40 : q ≤ 40 := by omega
  have HN0 := Lib.hid n0
  have HN1 := Lib.hid n1
  have HN2 := Lib.hid n2
  have HN3 := Lib.hid n3
  have HG := Lib.hid (geo_box w j inn gn p)
  have HB := Lib.hid (al_below w (.cells #[.int .i64 j, .int .i64 (inn : Int), .int .i64 (gn : Int), .int .i64 p] 23))
  have HNEW : Hid (∀ u : World, Calls Try.prog 11 #[.agg #[.int .i64 j, .int .i64 (inn : Int), .int .i64 (gn : Int), .int .i64 p]] u fun e w' => HandsM u (m, 0) e w') := Lib.hid (fun u => by
    have := new_any ⟨j, (inn : Int), (gn : Int), p⟩ u
    rwa [newP_yes hok, hm] at this)
  have HLAY : Hid (∀ (u : World) (A0 A1 A2 A3 : Option Addr) (k0 k1 k2 k3 : Nat), Lies u u.heap.size ⟨A0, k0, A1, k1, A2, k2, A3, k3⟩ m → Calls Try.prog 13 #[.agg #[.int .i64 j, .int .i64 (inn : Int), .int .i64 (gn : Int), .int .i64 p], .agg #[.slice A0 16 k0, .slice A1 gn k1, .slice A2 64 k2, .slice A3 inn k3]] u fun e w' => HandsL u (List.replicate q zero64, 0) e w') := Lib.hid (fun u A0 A1 A2 A3 k0 k1 k2 k3 hl => by
    have := lay_in j inn gn p m hom A0 A1 A2 A3 16 k0 gn k1 64 k2 inn k3 u n0 n1 n2 n3 hl (by omega)
    rwa [lay_yes hrt, hsec] at this)
  have HRIGHT : Hid (∀ (u : World) (A0 A1 A2 A3 : Option Addr) (k0 k1 k2 k3 : Nat), Lies u u.heap.size ⟨A0, k0, A1, k1, A2, k2, A3, k3⟩ m → Calls Try.prog 16 #[.agg #[.int .i64 j, .int .i64 (inn : Int), .int .i64 (gn : Int), .int .i64 p], .agg #[.slice A0 16 k0, .slice A1 gn k1, .slice A2 64 k2, .slice A3 inn k3]] u fun e w' => e = .returned (.bool true) ∧ Below u.heap.size u w') := Lib.hid (fun u A0 A1 A2 A3 k0 k1 k2 k3 hl => by
    have := right_in j inn gn p m hom A0 A1 A2 A3 16 k0 gn k1 64 k2 inn k3 u n0 n1 n2 n3 hl (by omega)
    rwa [rightB_yes hrt] at this)
  have HTAKE : Hid (∀ (u : World) (A : Option Addr) (c : Nat) (L : List Sc), SecsAt u u.heap.size A L (List.replicate q zero64) → q ≤ c → Calls Try.prog 19 #[.agg #[.int .i64 j, .int .i64 (inn : Int), .int .i64 (gn : Int), .int .i64 p], .slice A q c] u fun e w' => HandsM u (m, 0) e w') := Lib.hid (fun u A c L hs hc => by
    have := ptake_in j p inn gn (List.replicate q zero64) A q c L u (by simp) hs (by omega) hc
    rwa [← hsec, tak_secs hrt hom] at this)
  have HSAME : Hid (∀ (u : World) (A0 A1 A2 A3 : Option Addr) (k0 k1 k2 k3 : Nat) (B0 B1 B2 B3 : Option Addr) (d0 d1 d2 d3 : Nat), Lies u u.heap.size ⟨A0, k0, A1, k1, A2, k2, A3, k3⟩ m → Lies u u.heap.size ⟨B0, d0, B1, d1, B2, d2, B3, d3⟩ m → Calls Try.prog 15 #[.agg #[.slice A0 16 k0, .slice A1 gn k1, .slice A2 64 k2, .slice A3 inn k3], .agg #[.slice B0 16 d0, .slice B1 gn d1, .slice B2 64 d2, .slice B3 inn d3]] u fun e w' => e = .returned (.bool true) ∧ Below u.heap.size u w') := Lib.hid (fun u A0 A1 A2 A3 k0 k1 k2 k3 B0 B1 B2 B3 d0 d1 d2 d3 hl hk =>
    rsame_in m hom A0 A1 A2 A3 B0 B1 B2 B3 16 k0 gn k1 64 k2 inn k3 d0 d1 d2 d3 u n0 n1 n2 n3 hl hk (by omega))
  clear hv hok hi1 hi2 hg2 hm n0 n1 n2 n3 hrt hom hsec hq
  obtain ⟨g0, g1, g2, g3⟩ := four_cells HG.out
  have hltg := HG.out.lt
  go_enter Try.func8, Try.ntmps8
  go_upto_region 1 with fail
  generalize w.alloc (.cells #[.int .i64 j, .int .i64 (inn : Int), .int .i64 (gn : Int), .int .i64 p] 23) = W at *
  go_upto_region 11 with (first
    | (go_at_call 9; (with_reducible refine (shown_any _).mono ?_); rintro e w1 ⟨he, hb⟩; obtain rfl := he; replace HB := Lib.hid (HB.out.trans (hb.mono HB.out.size)); replace HG := Lib.hid (HG.out.below hb HG.out.lt); clear g0 g1 g2 g3 hltg hb; obtain ⟨g0, g1, g2, g3⟩ := four_cells HG.out; have hltg := HG.out.lt)
    | (go_at_call 11; (with_reducible refine (HNEW.out _).mono ?_); rintro e w2 hh; obtain ⟨A0, k0, A1, k1, A2, k2, A3, k3, he, ho, hb⟩ := hh.got HN0.out HN1.out HN2.out HN3.out; obtain rfl := he; replace HB := Lib.hid (HB.out.trans (hb.mono HB.out.size)); replace HG := Lib.hid (HG.out.below hb HG.out.lt); have HM := Lib.hid ho; clear ho; clear g0 g1 g2 g3 hltg hb; obtain ⟨g0, g1, g2, g3⟩ := four_cells HG.out; have hltg := HG.out.lt)
    | (go_at_call 13; have hal := al_below w2 (.cells #[.slice A0 16 k0, .slice A1 gn k1, .slice A2 64 k2, .slice A3 inn k3] 29); replace HB := Lib.hid (HB.out.trans (hal.mono HB.out.size)); replace HG := Lib.hid (HG.out.below hal HG.out.lt); replace HM := Lib.hid (HM.out.below hal); have HV := Lib.hid (Bk.new w2 29 [.slice A0 16 k0, .slice A1 gn k1, .slice A2 64 k2, .slice A3 inn k3]); clear hal; (with_reducible refine (HLAY.out _ _ _ _ _ _ _ _ _ HM.out.lies).mono ?_); rintro e w3 hh; obtain ⟨A, cc, L, he, -, hcap, -, hsa, hb⟩ := hh.got; rw [List.length_replicate] at he hcap; obtain rfl := he; replace HB := Lib.hid (HB.out.trans (hb.mono HB.out.size)); replace HG := Lib.hid (HG.out.below hb HG.out.lt); replace HM := Lib.hid (HM.out.below hb); replace HV := Lib.hid (HV.out.below hb HV.out.lt); have HAT := Lib.hid hsa; have HCAP := Lib.hid hcap; clear hsa hcap; clear g0 g1 g2 g3 hltg hb; obtain ⟨g0, g1, g2, g3⟩ := four_cells HG.out; have hltg := HG.out.lt; obtain ⟨m0, m1, m2, m3⟩ := four_cells HV.out; have hltv := HV.out.lt)
    | (go_at_call 16; (with_reducible refine (HRIGHT.out _ _ _ _ _ _ _ _ _ HM.out.lies).mono ?_); rintro e w4 ⟨he, hb⟩; obtain rfl := he; replace HB := Lib.hid (HB.out.trans (hb.mono HB.out.size)); replace HG := Lib.hid (HG.out.below hb HG.out.lt); replace HM := Lib.hid (HM.out.below hb); replace HV := Lib.hid (HV.out.below hb HV.out.lt); replace HAT := Lib.hid (HAT.out.later hb); clear g0 g1 g2 g3 m0 m1 m2 m3 hltg hltv hb; obtain ⟨g0, g1, g2, g3⟩ := four_cells HG.out; have hltg := HG.out.lt; obtain ⟨m0, m1, m2, m3⟩ := four_cells HV.out; have hltv := HV.out.lt))
  have hmk := make_zero
  obtain ⟨Z, hZ⟩ : ∃ Z : ByteArray, Z = ⟨zero64.toArray⟩ := ⟨_, rfl⟩
  have HZS : Hid (∀ (u : World) (g : Nat), Bk u g 5 (bytesV zero64) → (convert 26 9 (.slice (some ⟨g, 0, none⟩) 64 64)).run Try.prog u = .ok (.string Z) u) := Lib.hid (fun u g h => by rw [hZ]; exact str_sec length_zero64 (rd_zero h))
  have HZ := Lib.hid hZ
  have HBK := HB
  clear hZ HB g0 g1 g2 g3 hltg m0 m1 m2 m3 hltv
  go_loopw [8, 45] (fun _ k wr => ∃ a : Nat, k = .int .i64 (a : Int) ∧ a ≤ q ∧ Hid (Below w4.heap.size w4 wr)) (fun _ k _ => q - (intOf k).toNat)
  case atStart => exact ⟨0, rfl, Nat.zero_le _, Lib.hid (Below.refl _ _)⟩
  case round =>
    obtain ⟨a, rfl, ha, HB⟩ := hrel
    by_cases hlt : a < q
    · have hla : (List.replicate q zero64)[a]? = some zero64 := by rw [List.getElem?_replicate, if_pos hlt]
      obtain ⟨b, o, hA, -⟩ := HAT.out.first (by simp; omega)
      subst hA
      obtain ⟨S, hLa, -, hrs, -, -⟩ := HAT.out.get hla
      obtain ⟨sA, sc⟩ := S
      have HCE : Hid (∀ u : World, Below w4.heap.size w4 u → u.cell? ⟨b, o + a, none⟩ = some (.slice sA 64 sc) ∧ (convert 26 9 (.slice sA 64 sc)).run Try.prog u = .ok (.string Z) u) := Lib.hid (fun u hu => by
        obtain ⟨T, hT, hc, hr, -, -⟩ := (HAT.out.below hu).get hla
        rw [hLa] at hT
        injection hT with hT
        subst hT
        exact ⟨hc, by rw [HZ.out]; exact str_sec length_zero64 hr⟩)
      have hlti : (a : Int) < (q : Int) := by omega
      have ha0 : (0 : Int) ≤ (a : Int) := by omega
      clear hla hLa hrs
      go_wp2_with fail
      have hS0 : Below w4.heap.size w4 wr.drew := HB.out.drew
      refine wp_region_held_drew (S := fun u => Below w4.heap.size w4 u) (by kernel_rfl) hS0 (fun hHeld => ?_)
      refine wpAnyH_take (i := 0) (oi := _) (v := ?_) (by simp only [List.getElem?_toArray, List.getElem?_cons_zero]; rfl) (by kernel_rfl) (by kernel_rfl) (by kernel_rfl) (by exact fun _ _ _ h => h) (Or.inl ⟨by rfl, ?hyz0⟩) (by exact hHeld) ?rez0
      case hyz0 => (intro u hu; obtain ⟨q0, q1⟩ := HCE.out _ hu; clear hu; go_simp <;> with_reducible rfl)
      try simp only [Act.put, List.setIfInBounds_toArray, List.set_cons_zero, List.set_cons_succ]
      refine wpAnyH_take (i := 1) (oi := _) (v := ?_) (by simp only [List.getElem?_toArray, List.getElem?_cons_succ, List.getElem?_cons_zero]; rfl) (by kernel_rfl) (by kernel_rfl) (by kernel_rfl) (by exact fun _ _ _ h => h) (Or.inl ⟨by rfl, ?hyz1⟩) (by exact hHeld) ?rez1
      case hyz1 => (intro u hu; obtain ⟨q0, q1⟩ := HCE.out _ hu; clear hu; go_simp <;> with_reducible rfl)
      try simp only [Act.put, List.setIfInBounds_toArray, List.set_cons_zero, List.set_cons_succ]
      refine wpAnyH_take (i := 2) (oi := _) (v := ?_) (by simp only [List.getElem?_toArray, List.getElem?_cons_succ, List.getElem?_cons_zero]; rfl) (by kernel_rfl) (by kernel_rfl) (by kernel_rfl) (by exact fun _ _ _ h => h) (Or.inl ⟨by rfl, ?hyz2⟩) (by exact hHeld) ?rez2
      case hyz2 => (intro u hu; obtain ⟨q0, q1⟩ := HCE.out _ hu; clear hu; go_simp <;> with_reducible rfl)
      try simp only [Act.put, List.setIfInBounds_toArray, List.set_cons_zero, List.set_cons_succ]
      refine wpAnyH_take (i := 3) (oi := _) (v := ?_) (by simp only [List.getElem?_toArray, List.getElem?_cons_succ, List.getElem?_cons_zero]; rfl) (by kernel_rfl) (by kernel_rfl) (by kernel_rfl) (by exact fun _ _ _ h => h) (Or.inl ⟨by rfl, ?hyz3⟩) (by exact hHeld) ?rez3
      case hyz3 => (intro u hu; obtain ⟨q0, q1⟩ := HCE.out _ hu; clear hu; go_simp <;> with_reducible rfl)
      try simp only [Act.put, List.setIfInBounds_toArray, List.set_cons_zero, List.set_cons_succ]
      refine wpAnyH_take (i := 4) (oi := _) (v := ?_) (by simp only [List.getElem?_toArray, List.getElem?_cons_succ, List.getElem?_cons_zero]; rfl) (by kernel_rfl) (by kernel_rfl) (by kernel_rfl) (by exact fun _ _ _ h => h) (Or.inl ⟨by rfl, ?hyz4⟩) (by exact hHeld) ?rez4
      case hyz4 => (intro u hu; obtain ⟨q0, q1⟩ := HCE.out _ hu; clear hu; go_simp <;> with_reducible rfl)
      try simp only [Act.put, List.setIfInBounds_toArray, List.set_cons_zero, List.set_cons_succ]
      clear hS0
      generalize wr.drew = wd at *
      refine wpAnyH_ready (rs := [5]) (by kernel_rfl) (by simp) ?_
      refine AllReadyH.cons (o := _) (by simp only [List.getElem?_toArray, List.getElem?_cons_succ, List.getElem?_cons_zero]; rfl) (fun K hK => ?_) AllReadyH.nil
      go_simp
      have hS5 := hHeld.alloc hHeld.size (.cells (bytesV zero64).toArray 5)
      refine hK.out _ _ hS5 (fun hHeld2 => ?_)
      clear hK K
      refine held_strong (T := fun u => Below w4.heap.size w4 u ∧ Bk u wd.heap.size 5 (bytesV zero64)) (fun u h => h.1) _ _ _ _ ?_
      have hHeld : Below w4.heap.size w4 (wd.alloc (.cells (bytesV zero64).toArray 5)) ∧ Bk (wd.alloc (.cells (bytesV zero64).toArray 5)) wd.heap.size 5 (bytesV zero64) := ⟨hHeld2, Bk.new _ _ _⟩
      try simp only [Act.put, List.setIfInBounds_toArray, List.set_cons_zero, List.set_cons_succ]
      generalize wd.alloc (.cells (bytesV zero64).toArray 5) = wz at *
      refine wpAnyH_take (i := 6) (oi := _) (v := ?_) (by simp only [List.getElem?_toArray, List.getElem?_cons_succ, List.getElem?_cons_zero]; rfl) (by kernel_rfl) (by kernel_rfl) (by kernel_rfl) (by exact fun _ _ _ h => h) (Or.inl ⟨by rfl, ?hyz6⟩) (by exact hHeld) ?rez6
      case hyz6 => (intro u hu; have q2 := HZS.out _ _ hu.2; clear hu; go_simp <;> with_reducible rfl)
      try simp only [Act.put, List.setIfInBounds_toArray, List.set_cons_zero, List.set_cons_succ]
      refine wpAnyH_take (i := 7) (oi := _) (v := ?_) (by simp only [List.getElem?_toArray, List.getElem?_cons_succ, List.getElem?_cons_zero]; rfl) (by kernel_rfl) (by kernel_rfl) (by kernel_rfl) (by exact fun _ _ _ h => h) (Or.inl ⟨by rfl, ?hyz7⟩) (by exact hHeld) ?rez7
      case hyz7 => (intro u hu; clear hu; go_simp <;> with_reducible rfl)
      try simp only [Act.put, List.setIfInBounds_toArray, List.set_cons_zero, List.set_cons_succ]
      refine wpAnyH_done (by kernel_rfl) ?_ _
      have HB2 := Lib.hid hHeld.1
      clear hHeld hHeld2 hS5
      go_wp2
      go_roundw
      case rel => exact ⟨a + 1, by go_num, hlt, HB2⟩
      case measure => simp [intOf]; omega
    · obtain rfl : a = q := by omega
      have hBR := HB.out
      replace HBK := Lib.hid (HBK.out.trans (hBR.mono HBK.out.size))
      replace HG := Lib.hid (HG.out.below hBR HG.out.lt)
      replace HV := Lib.hid (HV.out.below hBR HV.out.lt)
      replace HM := Lib.hid (HM.out.below hBR)
      replace HAT := Lib.hid (HAT.out.later hBR)
      obtain ⟨g0, g1, g2, g3⟩ := four_cells HG.out
      obtain ⟨m0, m1, m2, m3⟩ := four_cells HV.out
      have hltg := HG.out.lt
      have hltv := HV.out.lt
      have hqi : (3 : Int) < (a : Int) := by omega
      clear hBR HB hlt ha hmk
      go_wp2_with (first
        | (go_at_call 19; (with_reducible refine (HTAKE.out _ _ _ _ HAT.out HCAP.out).mono ?_); rintro e w5 hh; obtain ⟨B0, d0, B1, d1, B2, d2, B3, d3, he, ho, hb⟩ := hh.got HN0.out HN1.out HN2.out HN3.out; obtain rfl := he; replace HBK := Lib.hid (HBK.out.trans (hb.mono HBK.out.size)); replace HG := Lib.hid (HG.out.below hb HG.out.lt); replace HV := Lib.hid (HV.out.below hb HV.out.lt); replace HM := Lib.hid (HM.out.below hb); replace HAT := Lib.hid (HAT.out.later hb); have HQ := Lib.hid ho; clear ho; clear g0 g1 g2 g3 m0 m1 m2 m3 hltg hltv hb; obtain ⟨g0, g1, g2, g3⟩ := four_cells HG.out; have hltg := HG.out.lt; obtain ⟨m0, m1, m2, m3⟩ := four_cells HV.out; have hltv := HV.out.lt)
        | (go_at_call 15; have hal := al_below w5 (.cells #[.slice B0 16 d0, .slice B1 gn d1, .slice B2 64 d2, .slice B3 inn d3] 29); replace HBK := Lib.hid (HBK.out.trans (hal.mono HBK.out.size)); replace HG := Lib.hid (HG.out.below hal HG.out.lt); replace HV := Lib.hid (HV.out.below hal HV.out.lt); replace HM := Lib.hid (HM.out.below hal); replace HAT := Lib.hid (HAT.out.later hal); replace HQ := Lib.hid (HQ.out.below hal); have HV2 := Lib.hid (Bk.new w5 29 [.slice B0 16 d0, .slice B1 gn d1, .slice B2 64 d2, .slice B3 inn d3]); clear hal; (with_reducible refine (HSAME.out _ _ _ _ _ _ _ _ _ _ _ _ _ _ _ _ _ HQ.out.lies HM.out.lies).mono ?_); rintro e w6 ⟨he, hb⟩; obtain rfl := he; replace HBK := Lib.hid (HBK.out.trans (hb.mono HBK.out.size)); replace HG := Lib.hid (HG.out.below hb HG.out.lt); replace HV := Lib.hid (HV.out.below hb HV.out.lt); replace HM := Lib.hid (HM.out.below hb); replace HAT := Lib.hid (HAT.out.later hb); replace HQ := Lib.hid (HQ.out.below hb); replace HV2 := Lib.hid (HV2.out.below hb HV2.out.lt); clear g0 g1 g2 g3 m0 m1 m2 m3 hltg hltv hb; obtain ⟨g0, g1, g2, g3⟩ := four_cells HG.out; have hltg := HG.out.lt; obtain ⟨m0, m1, m2, m3⟩ := four_cells HV.out; have hltv := HV.out.lt))
      go_ret
      exact ⟨rfl, HBK.out⟩
theorem new_walk (j i g p : Int) (w : World) : Calls Try.prog 8 #[.agg #[.int .i64 j, .int .i64 i, .int .i64 g, .int .i64 p]] w fun e w' => e = .returned (.bool true) ∧ Below w.heap.size w w' := by
  by_cases hv : Super.Valid j i g p
  · have h1 := hv.i1
    have h2 := hv.g1
    obtain ⟨inn, rfl⟩ := Int.eq_ofNat_of_zero_le (show 0 ≤ i by omega)
    obtain ⟨gn, rfl⟩ := Int.eq_ofNat_of_zero_le (show 0 ≤ g by omega)
    exact new_yes_walk j p gn inn hv w
  · exact new_no_walk j i g p hv w

set_option maxRecDepth 100000 in
theorem new_contract (H : Type) (enc : TypeId × Value → H) (W : World) (base : Nat) (args : Array Value) (ds gs : List (DataW H)) (before : List MemPlace)
    (hval : ∀ (j : Nat) t v, Try.f8.params[j]? = some t → args[j]? = some v → Value.okWide Try.prog W .any base t v)
    (hW : DataW.Whole enc Try.prog Try.f8.params.toList Rows.metaNewSpec.vars false W args.toList ds gs before) :
    Calls Try.prog 8 args W fun e W' => ∃ v, e = .returned v ∧ Rows.metaNewSpec.post enc Try.prog Try.f8 false true false false W args v W' := by
  have hW' := hW
  have hlt : ∀ x ∈ before, x.block < W.heap.size := fun x hx => hW.lt x hx
  obtain ⟨p, q, hA0, hV, rfl, _, _⟩ := hW
  have hA : DataW.TrodAll enc Try.prog W 0 (fun _ => true) true Try.f8.params.toList args.toList ds p := hA0
  rw [Try.params8] at hA hval
  obtain ⟨v0, vs0, d0, ds0, p0, q0, hargs, rfl, rfl, h0, r0⟩ := trodAll_cons hA
  obtain ⟨rfl, rfl, rfl⟩ := trodAll_nil r0
  obtain rfl : args = #[v0] := by cases args; simp_all
  obtain ⟨rfl, rfl⟩ := trodVars_none hV
  clear hA0
  obtain ⟨j0, i0, g0, p0, rfl, bj0, bi0, bg0, bp0⟩ := open_geo (hval 0 23 v0 rfl rfl) h0
  refine (new_walk j0 i0 g0 p0 W).mono fun e W' ⟨he, hb⟩ => ?_
  subst he
  exact ⟨_, rfl, law_post laid (by kernel_rfl) Try.underlying4 (by rw [Try.params8]; decide +kernel) rfl hW' ⟨rfl, rfl, rfl⟩ hb⟩

set_option maxRecDepth 100000 in
theorem new_lifted (os : Os) (started : os.Started) (H : Type) (enc : TypeId × Value → H) :
    ReturnsInHanded {} Try.checked os 8 .any (Rows.metaNewSpec.pre6 enc Try.prog Try.f8 Rows.metaNewRow.domain false) (Rows.metaNewSpec.post enc Try.prog Try.f8 false true false false) := by
  refine returnsInHanded_of_change (C := Try.checked) own started (by kernel_rfl) Try.func8
    (ChangeSpec.witness6 (enc := enc) (C := Try.checked) false ⟨#[], #[.agg #[.int .i64 0, .int .i64 0, .int .i64 0, .int .i64 0]], []⟩ 8 (by kernel_rfl) (by kernel_rfl) (by kernel_rfl) (by kernel_rfl)) ?_
  intro W base args ds gs before hval hW _ _
  exact new_contract H enc W base args ds gs before hval hW

/-- MetaNew is true for every input. -/
theorem new_holds : Rows.MetaNewSaid :=
  OpenClaim.holds_of_wide 8 Try.f8 rfl rfl rfl rfl rfl rfl rfl ⟨rfl, rfl, rfl, rfl, rfl⟩ rfl rfl rfl rfl rfl (by kernel_rfl) Try.func8 (by kernel_rfl)
    (of_decide_eq_true (by kernel_rfl)) (by unfold Func.isWrapper; first | (rw [if_pos (by decide +kernel)]; kernel_rfl) | (rw [if_neg (by decide +kernel)]; exact ⟨rfl, rfl⟩))
    (fun os started H enc _ => new_lifted os started H enc)
end Go.Proofs.Ytaflpigpeckhoaa
