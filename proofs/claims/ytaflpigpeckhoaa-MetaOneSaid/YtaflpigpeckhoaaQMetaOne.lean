/-
  One owner, bit or inode that is another one changes one sector: for every parting, everything known (of lists of up to 100), every choice.
  No condition is set.
-/
import Derived.Test.YtaflpigpeckhoaaQMetaOneA
namespace Go.Proofs.Ytaflpigpeckhoaa
open Go.RowKit Go.ChangeShapes Go.WideShapes Go.ChangeAt Go.Deep Go.Joins Meta

theorem bk_setCells {g gi : Nat} {e : TypeId} {xs : List Value} (hne : g ≠ gi) : ∀ (vs : List Value) (o : Nat) {w : World}, Bk w g e xs → Bk (w.setCells gi o vs) g e xs
  | [], _, _, h => h
  | v :: vs, o, _, h => bk_setCells hne vs (o + 1) (bk_set h ⟨gi, o, none⟩ v hne)
theorem xor_one (b : UInt8) : bits .xor .u8 (b.toNat : Int) 1 = ((b ^^^ 1).toNat : Int) := by
  have := u8_xor_nat b.toNat 1 b.toNat_lt (by decide)
  rw [UInt8.toNat_xor]
  exact this
set_option maxRecDepth 100000 in
set_option maxHeartbeats 6400000 in
theorem one_great (j i g p : Int) (m : Meta.Met) (_ho : Okm m) (M0 M1 M2 M3 : Option Addr) (r0 e0 r1 e1 r2 e2 r3 e3 : Nat) (wq aq : Nat) (w : World) (_h0 : m.rows.length = r0) (_h1 : m.own.length = r1) (_h2 : m.used.length = r2) (_h3 : m.ino.length = r3) (hl : Lies w w.heap.size ⟨M0, e0, M1, e1, M2, e2, M3, e3⟩ m) (_hwq : wq < 256) (_haq : aq < 256) (hsm : smallB r0 r1 r2 r3 = false) :
    Calls Try.prog 7 #[.agg #[.int .i64 j, .int .i64 i, .int .i64 g, .int .i64 p], .agg #[.slice M0 r0 e0, .slice M1 r1 e1, .slice M2 r2 e2, .slice M3 r3 e3], .int .u8 (wq : Int), .int .u8 (aq : Int)] w fun e w' => e = .returned (.bool true) ∧ Below w.heap.size w w' := by
  obtain ⟨W, hW⟩ : ∃ W, W = (w.alloc (.cells #[.int .i64 j, .int .i64 i, .int .i64 g, .int .i64 p] 23)).alloc (.cells #[.slice M0 r0 e0, .slice M1 r1 e1, .slice M2 r2 e2, .slice M3 r3 e3] 29) := ⟨_, rfl⟩
  have hbW : Below w.heap.size w W := by rw [hW]; exact (Below.refl _ _).alloc (Nat.le_refl _) _ |>.alloc (by simp) _
  have hG : Bk W w.heap.size 23 [.int .i64 j, .int .i64 i, .int .i64 g, .int .i64 p] := by rw [hW]; exact (geo_box w j i g p).below (al_below _ _) (by simp)
  have hM : Bk W (w.heap.size + 1) 29 [.slice M0 r0 e0, .slice M1 r1 e1, .slice M2 r2 e2, .slice M3 r3 e3] := by
    rw [hW]
    have := Bk.new (w.alloc (.cells #[.int .i64 j, .int .i64 i, .int .i64 g, .int .i64 p] 23)) 29 [.slice M0 r0 e0, .slice M1 r1 e1, .slice M2 r2 e2, .slice M3 r3 e3]
    simpa using this
  have HG := Lib.hid hG
  have HM := Lib.hid hM
  have HB := Lib.hid hbW
  have HW := Lib.hid hW
  have HLW := Lib.hid (hl.later hbW)
  have HBW := Lib.hid (Below.refl W.heap.size W)
  have HMW : Hid (w.heap.size + 1 < W.heap.size) := Lib.hid hM.lt
  obtain ⟨g0, g1, g2, g3⟩ := four_cells hG
  obtain ⟨q0, q1, q2, q3⟩ := four_cells hM
  have hltg := hG.lt
  have hltm := hM.lt
  have HS : Hid (∀ u : World, Calls Try.prog 10 #[.agg #[.slice M0 r0 e0, .slice M1 r1 e1, .slice M2 r2 e2, .slice M3 r3 e3]] u fun e w' => e = .returned (.bool false) ∧ Below u.heap.size u w') := Lib.hid (fun u => by
    have := small_in M0 M1 M2 M3 r0 e0 r1 e1 r2 e2 r3 e3 u
    rwa [hsm] at this)
  clear hsm hbW hG hM hW hl
  go_enter Try.func7, Try.ntmps7
  go_upto_region 1 with fail
  rw [← HW.out]
  go_wp2_with (first
    | (go_at_call 9; (with_reducible refine (shown_any _).mono ?_); rintro e w1 ⟨he, hb⟩; obtain rfl := he; replace HBW := Lib.hid (HBW.out.trans (hb.mono HBW.out.size)); replace HG := Lib.hid (HG.out.below hb HG.out.lt); replace HM := Lib.hid (HM.out.below hb HM.out.lt); clear g0 g1 g2 g3 q0 q1 q2 q3 hltg hltm hb; obtain ⟨g0, g1, g2, g3⟩ := four_cells HG.out; have hltg := HG.out.lt; obtain ⟨q0, q1, q2, q3⟩ := four_cells HM.out; have hltm := HM.out.lt)
    | (go_at_call 10; (with_reducible refine (HS.out _).mono ?_); rintro e w2 ⟨he, hb⟩; obtain rfl := he; replace HBW := Lib.hid (HBW.out.trans (hb.mono HBW.out.size)); replace HG := Lib.hid (HG.out.below hb HG.out.lt); replace HM := Lib.hid (HM.out.below hb HM.out.lt); clear g0 g1 g2 g3 q0 q1 q2 q3 hltg hltm hb; obtain ⟨g0, g1, g2, g3⟩ := four_cells HG.out; have hltg := HG.out.lt; obtain ⟨q0, q1, q2, q3⟩ := four_cells HM.out; have hltm := HM.out.lt))
  go_ret
  exact ⟨rfl, HB.out.trans (HBW.out.mono HB.out.size)⟩
set_option maxRecDepth 100000 in
set_option maxHeartbeats 6400000 in
theorem one_not (j i g p : Int) (m : Meta.Met) (ho : Okm m) (M0 M1 M2 M3 : Option Addr) (r0 e0 r1 e1 r2 e2 r3 e3 : Nat) (wq aq : Nat) (w : World) (h0 : m.rows.length = r0) (h1 : m.own.length = r1) (h2 : m.used.length = r2) (h3 : m.ino.length = r3) (hl : Lies w w.heap.size ⟨M0, e0, M1, e1, M2, e2, M3, e3⟩ m) (_hwq : wq < 256) (_haq : aq < 256) (hsm : smallB r0 r1 r2 r3 = true) (hR : ¬ Meta.Right ⟨j, i, g, p⟩ m) :
    Calls Try.prog 7 #[.agg #[.int .i64 j, .int .i64 i, .int .i64 g, .int .i64 p], .agg #[.slice M0 r0 e0, .slice M1 r1 e1, .slice M2 r2 e2, .slice M3 r3 e3], .int .u8 (wq : Int), .int .u8 (aq : Int)] w fun e w' => e = .returned (.bool true) ∧ Below w.heap.size w w' := by
  obtain ⟨W, hW⟩ : ∃ W, W = (w.alloc (.cells #[.int .i64 j, .int .i64 i, .int .i64 g, .int .i64 p] 23)).alloc (.cells #[.slice M0 r0 e0, .slice M1 r1 e1, .slice M2 r2 e2, .slice M3 r3 e3] 29) := ⟨_, rfl⟩
  have hbW : Below w.heap.size w W := by rw [hW]; exact (Below.refl _ _).alloc (Nat.le_refl _) _ |>.alloc (by simp) _
  have hG : Bk W w.heap.size 23 [.int .i64 j, .int .i64 i, .int .i64 g, .int .i64 p] := by rw [hW]; exact (geo_box w j i g p).below (al_below _ _) (by simp)
  have hM : Bk W (w.heap.size + 1) 29 [.slice M0 r0 e0, .slice M1 r1 e1, .slice M2 r2 e2, .slice M3 r3 e3] := by
    rw [hW]
    have := Bk.new (w.alloc (.cells #[.int .i64 j, .int .i64 i, .int .i64 g, .int .i64 p] 23)) 29 [.slice M0 r0 e0, .slice M1 r1 e1, .slice M2 r2 e2, .slice M3 r3 e3]
    simpa using this
  have HG := Lib.hid hG
  have HM := Lib.hid hM
  have HB := Lib.hid hbW
  have HW := Lib.hid hW
  have HLW := Lib.hid (hl.later hbW)
  have HBW := Lib.hid (Below.refl W.heap.size W)
  have HMW : Hid (w.heap.size + 1 < W.heap.size) := Lib.hid hM.lt
  obtain ⟨g0, g1, g2, g3⟩ := four_cells hG
  obtain ⟨q0, q1, q2, q3⟩ := four_cells hM
  have hltg := hG.lt
  have hltm := hM.lt
  have HS : Hid (∀ u : World, Calls Try.prog 10 #[.agg #[.slice M0 r0 e0, .slice M1 r1 e1, .slice M2 r2 e2, .slice M3 r3 e3]] u fun e w' => e = .returned (.bool true) ∧ Below u.heap.size u w') := Lib.hid (fun u => by
    have := small_in M0 M1 M2 M3 r0 e0 r1 e1 r2 e2 r3 e3 u
    rwa [hsm] at this)
  obtain ⟨s0, s1, s2, s3⟩ := small_yes hsm
  have HRIGHT : Hid (∀ u : World, Below W.heap.size W u → Calls Try.prog 16 #[.agg #[.int .i64 j, .int .i64 i, .int .i64 g, .int .i64 p], .agg #[.slice M0 r0 e0, .slice M1 r1 e1, .slice M2 r2 e2, .slice M3 r3 e3]] u fun e w' => e = .returned (.bool false) ∧ Below u.heap.size u w') := Lib.hid (fun u hu => by
    have := right_in j i g p m ho M0 M1 M2 M3 r0 e0 r1 e1 r2 e2 r3 e3 u h0 h1 h2 h3 (HLW.out.later hu) (by omega)
    rwa [rightB_no hR] at this)
  clear s0 s1 s2 s3 hR
  clear hsm ho h0 h1 h2 h3 hbW hG hM hW hl
  go_enter Try.func7, Try.ntmps7
  go_upto_region 1 with fail
  rw [← HW.out]
  go_wp2_with (first
    | (go_at_call 9; (with_reducible refine (shown_any _).mono ?_); rintro e w1 ⟨he, hb⟩; obtain rfl := he; replace HBW := Lib.hid (HBW.out.trans (hb.mono HBW.out.size)); replace HG := Lib.hid (HG.out.below hb HG.out.lt); replace HM := Lib.hid (HM.out.below hb HM.out.lt); clear g0 g1 g2 g3 q0 q1 q2 q3 hltg hltm hb; obtain ⟨g0, g1, g2, g3⟩ := four_cells HG.out; have hltg := HG.out.lt; obtain ⟨q0, q1, q2, q3⟩ := four_cells HM.out; have hltm := HM.out.lt)
    | (go_at_call 10; (with_reducible refine (HS.out _).mono ?_); rintro e w2 ⟨he, hb⟩; obtain rfl := he; replace HBW := Lib.hid (HBW.out.trans (hb.mono HBW.out.size)); replace HG := Lib.hid (HG.out.below hb HG.out.lt); replace HM := Lib.hid (HM.out.below hb HM.out.lt); clear g0 g1 g2 g3 q0 q1 q2 q3 hltg hltm hb; obtain ⟨g0, g1, g2, g3⟩ := four_cells HG.out; have hltg := HG.out.lt; obtain ⟨q0, q1, q2, q3⟩ := four_cells HM.out; have hltm := HM.out.lt)
    | (go_at_call 16; (with_reducible refine (HRIGHT.out _ HBW.out).mono ?_); rintro e w3 ⟨he, hb⟩; obtain rfl := he; replace HBW := Lib.hid (HBW.out.trans (hb.mono HBW.out.size)); replace HG := Lib.hid (HG.out.below hb HG.out.lt); replace HM := Lib.hid (HM.out.below hb HM.out.lt); clear g0 g1 g2 g3 q0 q1 q2 q3 hltg hltm hb; obtain ⟨g0, g1, g2, g3⟩ := four_cells HG.out; have hltg := HG.out.lt; obtain ⟨q0, q1, q2, q3⟩ := four_cells HM.out; have hltm := HM.out.lt))
  go_ret
  exact ⟨rfl, HB.out.trans (HBW.out.mono HB.out.size)⟩
set_option maxRecDepth 100000 in
set_option maxHeartbeats 12800000 in
theorem one_w0 (j i g p : Int) (m : Meta.Met) (ho : Okm m) (M0 M1 M2 M3 : Option Addr) (r0 e0 r1 e1 r2 e2 r3 e3 : Nat) (wq aq : Nat) (w : World) (h0 : m.rows.length = r0) (h1 : m.own.length = r1) (h2 : m.used.length = r2) (h3 : m.ino.length = r3) (hl : Lies w w.heap.size ⟨M0, e0, M1, e1, M2, e2, M3, e3⟩ m) (hwq : wq < 256) (haq : aq < 256) (hsm : smallB r0 r1 r2 r3 = true) (hR : Meta.Right ⟨j, i, g, p⟩ m) (hk : wq % 3 = 0) :
    Calls Try.prog 7 #[.agg #[.int .i64 j, .int .i64 i, .int .i64 g, .int .i64 p], .agg #[.slice M0 r0 e0, .slice M1 r1 e1, .slice M2 r2 e2, .slice M3 r3 e3], .int .u8 (wq : Int), .int .u8 (aq : Int)] w fun e w' => e = .returned (.bool true) ∧ Below w.heap.size w w' := by
  obtain ⟨W, hW⟩ : ∃ W, W = (w.alloc (.cells #[.int .i64 j, .int .i64 i, .int .i64 g, .int .i64 p] 23)).alloc (.cells #[.slice M0 r0 e0, .slice M1 r1 e1, .slice M2 r2 e2, .slice M3 r3 e3] 29) := ⟨_, rfl⟩
  have hbW : Below w.heap.size w W := by rw [hW]; exact (Below.refl _ _).alloc (Nat.le_refl _) _ |>.alloc (by simp) _
  have hG : Bk W w.heap.size 23 [.int .i64 j, .int .i64 i, .int .i64 g, .int .i64 p] := by rw [hW]; exact (geo_box w j i g p).below (al_below _ _) (by simp)
  have hM : Bk W (w.heap.size + 1) 29 [.slice M0 r0 e0, .slice M1 r1 e1, .slice M2 r2 e2, .slice M3 r3 e3] := by
    rw [hW]
    have := Bk.new (w.alloc (.cells #[.int .i64 j, .int .i64 i, .int .i64 g, .int .i64 p] 23)) 29 [.slice M0 r0 e0, .slice M1 r1 e1, .slice M2 r2 e2, .slice M3 r3 e3]
    simpa using this
  have HG := Lib.hid hG
  have HM := Lib.hid hM
  have HB := Lib.hid hbW
  have HW := Lib.hid hW
  have HLW := Lib.hid (hl.later hbW)
  have HBW := Lib.hid (Below.refl W.heap.size W)
  have HMW : Hid (w.heap.size + 1 < W.heap.size) := Lib.hid hM.lt
  obtain ⟨g0, g1, g2, g3⟩ := four_cells hG
  obtain ⟨q0, q1, q2, q3⟩ := four_cells hM
  have hltg := hG.lt
  have hltm := hM.lt
  obtain ⟨s0, s1, s2, s3⟩ := small_yes hsm
  have HS : Hid (∀ u : World, Calls Try.prog 10 #[.agg #[.slice M0 r0 e0, .slice M1 r1 e1, .slice M2 r2 e2, .slice M3 r3 e3]] u fun e w' => e = .returned (.bool true) ∧ Below u.heap.size u w') := Lib.hid (fun u => by
    have := small_in M0 M1 M2 M3 r0 e0 r1 e1 r2 e2 r3 e3 u
    rwa [hsm] at this)
  have HRIGHT : Hid (∀ u : World, Below W.heap.size W u → Calls Try.prog 16 #[.agg #[.int .i64 j, .int .i64 i, .int .i64 g, .int .i64 p], .agg #[.slice M0 r0 e0, .slice M1 r1 e1, .slice M2 r2 e2, .slice M3 r3 e3]] u fun e w' => e = .returned (.bool true) ∧ Below u.heap.size u w') := Lib.hid (fun u hu => by
    have := right_in j i g p m ho M0 M1 M2 M3 r0 e0 r1 e1 r2 e2 r3 e3 u h0 h1 h2 h3 (HLW.out.later hu) (by omega)
    rwa [rightB_yes hR] at this)
  have HCOPY : Hid (∀ u : World, Below W.heap.size W u → Calls Try.prog 22 #[.agg #[.slice M0 r0 e0, .slice M1 r1 e1, .slice M2 r2 e2, .slice M3 r3 e3]] u fun e w' => ∃ A0 k0 A1 k1 A2 k2 A3 k3, e = .returned (.agg #[.slice A0 r0 k0, .slice A1 r1 k1, .slice A2 r2 k2, .slice A3 r3 k3]) ∧ OwnM w' u.heap.size ⟨A0, k0, A1, k1, A2, k2, A3, k3⟩ m ∧ Below u.heap.size u w') := Lib.hid (fun u hu => by
    have := copy_in m ho M0 M1 M2 M3 r0 e0 r1 e1 r2 e2 r3 e3 u h0 h1 h2 h3 (HLW.out.later hu) (by omega)
    refine this.mono ?_
    rintro e w' ⟨⟨A0, k0, A1, k1, A2, k2, A3, k3⟩, he, ho, hb⟩
    exact ⟨A0, k0, A1, k1, A2, k2, A3, k3, by rw [he, ← h0, ← h1, ← h2, ← h3]; rfl, ho, hb⟩)
  have HLAY : Hid (∀ u : World, Below W.heap.size W u → Calls Try.prog 13 #[.agg #[.int .i64 j, .int .i64 i, .int .i64 g, .int .i64 p], .agg #[.slice M0 r0 e0, .slice M1 r1 e1, .slice M2 r2 e2, .slice M3 r3 e3]] u fun e w' => HandsL u (secs m, 0) e w') := Lib.hid (fun u hu => by
    have := lay_in j i g p m ho M0 M1 M2 M3 r0 e0 r1 e1 r2 e2 r3 e3 u h0 h1 h2 h3 (HLW.out.later hu) (by omega)
    rwa [lay_yes hR] at this)
  have hl16 := hR.rows.len
  have hu64 := hR.ulen
  have hol := hR.olen
  have hil := hR.ilen
  have hg1 := hR.geo.g1
  have hi1 := hR.geo.i1
  have hi2 := hR.geo.i2
  simp only at hol hil hg1 hi1 hi2
  have hq5 := length_secs hR
  simp only at hq5
  have p0 : 0 < r0 := by omega
  have p1 : 0 < r1 := by omega
  have p2 : 0 < r2 := by omega
  have p3 : 0 < r3 := by omega
  obtain ⟨ii, hii⟩ : ∃ ii, aq % r1 = ii := ⟨_, rfl⟩
  have hir : ii < r1 := by rw [← hii]; exact Nat.mod_lt _ p1
  obtain ⟨x, hx⟩ : ∃ x, m.own[ii]? = some x := ⟨_, List.getElem?_eq_getElem (by rw [h1]; exact hir)⟩
  have hxr := hR.own x (List.mem_of_getElem? hx)
  have hmod : (aq : Int) % (r1 : Int) = (ii : Int) := by rw [← hii]; exact (Int.natCast_emod _ _).symm
  have hR' := right_own hR hx
  have hone := one_own hR ho hx
  have ho' : Okm { m with own := m.own.set ii ((x + 1) % 17) } := okm_own ho ⟨(own_mod hxr).1, (own_mod hxr).2.1⟩
  have hlen1 : (m.own.set ii ((x + 1) % 17)).length = r1 := by rw [List.length_set, h1]
  have HLAY2 : Hid (∀ (u : World) (A0 A1 A2 A3 : Option Addr) (k0 k1 k2 k3 : Nat), Lies u u.heap.size ⟨A0, k0, A1, k1, A2, k2, A3, k3⟩ { m with own := m.own.set ii ((x + 1) % 17) } → Calls Try.prog 13 #[.agg #[.int .i64 j, .int .i64 i, .int .i64 g, .int .i64 p], .agg #[.slice A0 r0 k0, .slice A1 r1 k1, .slice A2 r2 k2, .slice A3 r3 k3]] u fun e w' => HandsL u (secs { m with own := m.own.set ii ((x + 1) % 17) }, 0) e w') := Lib.hid (fun u A0 A1 A2 A3 k0 k1 k2 k3 hl => by
    have := lay_in j i g p { m with own := m.own.set ii ((x + 1) % 17) } ho' A0 A1 A2 A3 r0 k0 r1 k1 r2 k2 r3 k3 u h0 hlen1 h2 h3 hl (by omega)
    rwa [lay_yes hR'] at this)
  obtain ⟨l1, hl1⟩ : ∃ l1, secs m = l1 := ⟨_, rfl⟩
  obtain ⟨l2, hl2⟩ : ∃ l2, secs { m with own := m.own.set ii ((x + 1) % 17) } = l2 := ⟨_, rfl⟩
  rw [hl1] at HLAY hone hq5
  rw [hl2] at HLAY2 hone
  obtain ⟨q, hq⟩ : ∃ q, l1.length = q := ⟨_, rfl⟩
  rw [hq] at hone hq5
  have HONE := Lib.hid hone
  have HQ1 := Lib.hid hone.len
  have HQ2 := Lib.hid hone.len'
  obtain ⟨dd, hdd⟩ : ∃ dd, 1 = dd := ⟨_, rfl⟩
  rw [hdd] at HONE
  have hq40 : q ≤ 40 := by omega
  have z0 : ((r0 : Int) == 0) = false := by simp; omega
  have z1 : ((r1 : Int) == 0) = false := by simp; omega
  have z2 : ((r2 : Int) == 0) = false := by simp; omega
  have z3 : ((r3 : Int) == 0) = false := by simp; omega
  have hkw : (wq : Int) % 3 = 0 := by omega
  have H0 := Lib.hid h0
  have H1 := Lib.hid h1
  have H2 := Lib.hid h2
  have H3 := Lib.hid h3
  have HOKM := Lib.hid ho
  clear h0 h1 h2 h3 ho ho' hlen1 hsm hbW hG hM hW hl hR hR' hone hq hq5 hl1 hl2 hdd hl16 hu64 hol hil hg1 hi1 hi2
  go_enter Try.func7, Try.ntmps7
  go_upto_region 1 with fail
  rw [← HW.out]
  go_upto_region 5 with (first
    | (go_at_call 9; (with_reducible refine (shown_any _).mono ?_); rintro e w1 ⟨he, hb⟩; obtain rfl := he; replace HBW := Lib.hid (HBW.out.trans (hb.mono HBW.out.size)); replace HG := Lib.hid (HG.out.below hb HG.out.lt); replace HM := Lib.hid (HM.out.below hb HM.out.lt); clear g0 g1 g2 g3 q0 q1 q2 q3 hltg hltm hb; obtain ⟨g0, g1, g2, g3⟩ := four_cells HG.out; have hltg := HG.out.lt; obtain ⟨q0, q1, q2, q3⟩ := four_cells HM.out; have hltm := HM.out.lt)
    | (go_at_call 10; (with_reducible refine (HS.out _).mono ?_); rintro e w2 ⟨he, hb⟩; obtain rfl := he; replace HBW := Lib.hid (HBW.out.trans (hb.mono HBW.out.size)); replace HG := Lib.hid (HG.out.below hb HG.out.lt); replace HM := Lib.hid (HM.out.below hb HM.out.lt); clear g0 g1 g2 g3 q0 q1 q2 q3 hltg hltm hb; obtain ⟨g0, g1, g2, g3⟩ := four_cells HG.out; have hltg := HG.out.lt; obtain ⟨q0, q1, q2, q3⟩ := four_cells HM.out; have hltm := HM.out.lt)
    | (go_at_call 16; (with_reducible refine (HRIGHT.out _ HBW.out).mono ?_); rintro e w3 ⟨he, hb⟩; obtain rfl := he; replace HBW := Lib.hid (HBW.out.trans (hb.mono HBW.out.size)); replace HG := Lib.hid (HG.out.below hb HG.out.lt); replace HM := Lib.hid (HM.out.below hb HM.out.lt); clear g0 g1 g2 g3 q0 q1 q2 q3 hltg hltm hb; obtain ⟨g0, g1, g2, g3⟩ := four_cells HG.out; have hltg := HG.out.lt; obtain ⟨q0, q1, q2, q3⟩ := four_cells HM.out; have hltm := HM.out.lt)
    | (go_at_call 22; (with_reducible refine (HCOPY.out _ HBW.out).mono ?_); have HBW0 := HBW; rintro e w4 hh; obtain ⟨A0, k0, A1, k1, A2, k2, A3, k3, he, ho2, hb⟩ := hh; obtain rfl := he; replace HBW := Lib.hid (HBW.out.trans (hb.mono HBW.out.size)); replace HG := Lib.hid (HG.out.below hb HG.out.lt); replace HM := Lib.hid (HM.out.below hb HM.out.lt); have HO := Lib.hid (ho2.base HBW0.out.size); clear ho2; clear g0 g1 g2 g3 q0 q1 q2 q3 hltg hltm hb; obtain ⟨g0, g1, g2, g3⟩ := four_cells HG.out; have hltg := HG.out.lt; obtain ⟨q0, q1, q2, q3⟩ := four_cells HM.out; have hltm := HM.out.lt))
  have HM4 : Hid (W.heap.size ≤ w4.heap.size) := Lib.hid HBW.out.size
  have hal := al_below w4 (.cells #[.slice A0 r0 k0, .slice A1 r1 k1, .slice A2 r2 k2, .slice A3 r3 k3] 29)
  replace HBW := Lib.hid (HBW.out.trans (hal.mono HBW.out.size))
  replace HG := Lib.hid (HG.out.below hal HG.out.lt)
  replace HM := Lib.hid (HM.out.below hal HM.out.lt)
  replace HO := Lib.hid (HO.out.below hal)
  have HV := Lib.hid (Bk.new w4 29 [.slice A0 r0 k0, .slice A1 r1 k1, .slice A2 r2 k2, .slice A3 r3 k3])
  clear hal g0 g1 g2 g3 q0 q1 q2 q3 hltg hltm HBW0
  generalize hM10 : w4.heap.size = m10 at *
  generalize w4.alloc (.cells #[.slice A0 r0 k0, .slice A1 r1 k1, .slice A2 r2 k2, .slice A3 r3 k3] 29) = w5 at *
  obtain ⟨g0, g1, g2, g3⟩ := four_cells HG.out
  obtain ⟨q0, q1, q2, q3⟩ := four_cells HM.out
  obtain ⟨x0, x1, x2, x3⟩ := four_cells HV.out
  obtain ⟨go, hgo, hgo1, hgo2⟩ := own_at HO.out.own (by have := H1.out; omega)
  have hgo : A1 = some ⟨go, 0, none⟩ := hgo
  subst hgo
  obtain ⟨ho3, hgb⟩ := HO.out.owner rfl ii ((x + 1) % 17)
  have hcx : w5.cell? ⟨go, ii, none⟩ = some (.int .i64 x) := by
    have := HO.out.own.cellAt ii (by have := H1.out; omega)
    rw [this, Inode.intsV, List.getElem?_map, hx]; rfl
  have hfx := HO.out.own.frozenAt ii
  have hxw : IntKind.i64.wrap (x + 1) = x + 1 := by rw [IntKind.wrap_i64]; omega
  have hal : IntKind.i64.wrap (aq : Int) = (aq : Int) := by rw [IntKind.wrap_i64]; omega
  have hii0 : (0 : Int) ≤ (ii : Int) := by omega
  have hiil : (ii : Int) < (r1 : Int) := by omega
  have hne0 : (r1 : Int) ≠ 0 := by omega
  have hgne : go ≠ m10 := fun e => bk_ne HV.out HO.out.own (by decide) (by simp [Value.ownBlock, e])
  go_upto_region 14 with fail
  go_region
  have HO6 := Lib.hid (ho3.below ((Below.refl _ _).drew))
  have hlw := HM.out.lt
  have HBW6 := Lib.hid ((HBW.out.setCell (p := ⟨go, ii, none⟩) hgb (.int .i64 ((x + 1) % 17))).drew)
  have HG6 := Lib.hid (bk_drew <| bk_set HG.out ⟨go, ii, none⟩ (.int .i64 ((x + 1) % 17)) (by show w.heap.size ≠ go; have := HMW.out; omega))
  have HM6 := Lib.hid (bk_drew <| bk_set HM.out ⟨go, ii, none⟩ (.int .i64 ((x + 1) % 17)) (by show w.heap.size + 1 ≠ go; have := HMW.out; omega))
  have HV6 := Lib.hid (bk_drew <| bk_set HV.out ⟨go, ii, none⟩ (.int .i64 ((x + 1) % 17)) (by show m10 ≠ go; exact Ne.symm hgne))
  clear HBW HG HM HV HO ho3 hcx hfx hxw hal hii0 hiil hne0 hgne hgb g0 g1 g2 g3 q0 q1 q2 q3 x0 x1 x2 x3 hlw
  generalize (w5.setCell ⟨go, ii, none⟩ (.int .i64 ((x + 1) % 17))).drew = w6 at *
  have HO := HO6
  have HBW := HBW6
  have HG := HG6
  have HM := HM6
  have HV := HV6
  clear HO6 HBW6 HG6 HM6 HV6
  obtain ⟨g0, g1, g2, g3⟩ := four_cells HG.out
  obtain ⟨q0, q1, q2, q3⟩ := four_cells HM.out
  obtain ⟨x0, x1, x2, x3⟩ := four_cells HV.out
  go_wp2_with (first
    | (go_at_call 13; (with_reducible refine (HLAY.out _ HBW.out).mono ?_); rintro e w7 hh; obtain ⟨C1, c1, L1, he, -, -, -, hsa, hb⟩ := hh.got; rw [HQ1.out] at he; obtain rfl := he; replace HBW := Lib.hid (HBW.out.trans (hb.mono HBW.out.size)); replace HG := Lib.hid (HG.out.below hb HG.out.lt); replace HM := Lib.hid (HM.out.below hb HM.out.lt); replace HV := Lib.hid (HV.out.below hb HV.out.lt); replace HO := Lib.hid (HO.out.below hb); have HT1 := Lib.hid hsa; clear hsa; clear g0 g1 g2 g3 q0 q1 q2 q3 x0 x1 x2 x3 hb; obtain ⟨g0, g1, g2, g3⟩ := four_cells HG.out; obtain ⟨q0, q1, q2, q3⟩ := four_cells HM.out; obtain ⟨x0, x1, x2, x3⟩ := four_cells HV.out)
    | (go_at_call 13; (with_reducible refine (HLAY2.out _ _ _ _ _ _ _ _ _ HO.out.lies).mono ?_); rintro e w8 hh; obtain ⟨C2, c2, L2, he, -, -, -, hsa, hb⟩ := hh.got; rw [HQ2.out] at he; obtain rfl := he; replace HBW := Lib.hid (HBW.out.trans (hb.mono HBW.out.size)); replace HG := Lib.hid (HG.out.below hb HG.out.lt); replace HM := Lib.hid (HM.out.below hb HM.out.lt); replace HV := Lib.hid (HV.out.below hb HV.out.lt); replace HO := Lib.hid (HO.out.below hb); replace HT1 := Lib.hid (HT1.out.later hb); have HT2 := Lib.hid hsa; clear hsa; clear g0 g1 g2 g3 q0 q1 q2 q3 x0 x1 x2 x3 hb; obtain ⟨g0, g1, g2, g3⟩ := four_cells HG.out; obtain ⟨q0, q1, q2, q3⟩ := four_cells HM.out; obtain ⟨x0, x1, x2, x3⟩ := four_cells HV.out))
  clear g0 g1 g2 g3 q0 q1 q2 q3 x0 x1 x2 x3
  go_loopw [18, 19, 133] (fun cn _ k wr => ∃ a : Nat, k = .int .i64 (a : Int) ∧ a ≤ q ∧ cn = .int .i64 (if dd < a then 1 else 0) ∧ Hid (Below w8.heap.size w8 wr)) (fun _ _ k _ => q - (intOf k).toNat)
  case atStart => exact ⟨0, rfl, Nat.zero_le _, by simp, Lib.hid (Below.refl _ _)⟩
  case round =>
    obtain ⟨a, rfl, ha, rfl, HBR⟩ := hrel
    by_cases hlt : a < q
    · obtain ⟨x', hx'⟩ : ∃ x', l1[a]? = some x' := ⟨_, List.getElem?_eq_getElem (by rw [HQ1.out]; exact hlt)⟩
      obtain ⟨y', hy'⟩ : ∃ y', l2[a]? = some y' := ⟨_, List.getElem?_eq_getElem (by rw [HQ2.out]; exact hlt)⟩
      obtain ⟨bb1, oo1, hA1, -⟩ := HT1.out.first (by rw [HQ1.out]; omega)
      subst hA1
      obtain ⟨bb2, oo2, hA2, -⟩ := HT2.out.first (by rw [HQ2.out]; omega)
      subst hA2
      obtain ⟨S1, -, hcx1, hrx, -, -⟩ := (HT1.out.below HBR.out).get hx'
      obtain ⟨S2, -, hcy1, hry, -, -⟩ := (HT2.out.below HBR.out).get hy'
      have kx := fun k => str_sec (n := x'.length) (c := S1.c) rfl (hrx.drewN k)
      have ky := fun k => str_sec (n := y'.length) (c := S2.c) rfl (hry.drewN k)
      have ixy := str_cmp x' y'
      have hxy := HONE.out.sym a x' y' hx' hy'
      rw [hxy] at ixy
      generalize (⟨x'.toArray⟩ : ByteArray) = X at *
      generalize (⟨y'.toArray⟩ : ByteArray) = Y at *
      have hlti : (a : Int) < (q : Int) := by omega
      have hi0 : (0 : Int) ≤ (a : Int) := by omega
      have hiw : IntKind.i64.wrap ((a : Int) + 1) = ((a + 1 : Nat) : Int) := by rw [IntKind.wrap_i64]; omega
      clear hx' hy' hrx hry hxy
      by_cases hd : a = dd
      · have hnd : ¬ dd < a := by omega
        have hnd1 : dd < a + 1 := by omega
        have hdt : (!decide (a = dd)) = false := by simp [hd]
        rw [hdt] at ixy
        rw [if_neg hnd]
        clear hd hdt
        go_wp2_with fail
        go_quiet (fail)
        go_wp2
        have HB7 := Lib.hid (Inode.below_drewN HBR.out nq)
        go_roundw
        case rel => exact ⟨a + 1, by first | rfl | (congr 1), hlt, by rw [if_pos hnd1], HB7⟩
        case measure => simp [intOf]; omega
      · have hdt : (!decide (a = dd)) = true := by simp [hd]
        rw [hdt] at ixy
        have hcn : (if dd < a + 1 then (1 : Int) else 0) = if dd < a then 1 else 0 := by
          by_cases h : dd < a
          · rw [if_pos h, if_pos (by omega)]
          · rw [if_neg h, if_neg (by omega)]
        have HCN := Lib.hid hcn
        obtain ⟨cn, hcn2⟩ : ∃ cn : Int, (if dd < a then (1 : Int) else 0) = cn := ⟨_, rfl⟩
        rw [hcn2] at HCN ⊢
        clear hd hdt hcn hcn2
        go_wp2_with fail
        go_quiet (fail)
        go_wp2
        have HB7 := Lib.hid (Inode.below_drewN HBR.out nq)
        go_roundw
        case rel => exact ⟨a + 1, by first | rfl | (congr 1), hlt, by rw [HCN.out], HB7⟩
        case measure => simp [intOf]; omega
    · obtain rfl : a = q := by omega
      have hdq := HONE.out.lt
      rw [if_pos hdq]
      clear hdq
      go_wp2
      go_ret
      exact ⟨rfl, HB.out.trans ((HBW.out.trans (HBR.out.mono HBW.out.size)).mono HB.out.size)⟩
set_option maxRecDepth 100000 in
set_option maxHeartbeats 12800000 in
theorem one_w1 (j i g p : Int) (m : Meta.Met) (ho : Okm m) (M0 M1 M2 M3 : Option Addr) (r0 e0 r1 e1 r2 e2 r3 e3 : Nat) (wq aq : Nat) (w : World) (h0 : m.rows.length = r0) (h1 : m.own.length = r1) (h2 : m.used.length = r2) (h3 : m.ino.length = r3) (hl : Lies w w.heap.size ⟨M0, e0, M1, e1, M2, e2, M3, e3⟩ m) (hwq : wq < 256) (_haq : aq < 256) (hsm : smallB r0 r1 r2 r3 = true) (hR : Meta.Right ⟨j, i, g, p⟩ m) (hk : wq % 3 = 1) :
    Calls Try.prog 7 #[.agg #[.int .i64 j, .int .i64 i, .int .i64 g, .int .i64 p], .agg #[.slice M0 r0 e0, .slice M1 r1 e1, .slice M2 r2 e2, .slice M3 r3 e3], .int .u8 (wq : Int), .int .u8 (aq : Int)] w fun e w' => e = .returned (.bool true) ∧ Below w.heap.size w w' := by
  obtain ⟨W, hW⟩ : ∃ W, W = (w.alloc (.cells #[.int .i64 j, .int .i64 i, .int .i64 g, .int .i64 p] 23)).alloc (.cells #[.slice M0 r0 e0, .slice M1 r1 e1, .slice M2 r2 e2, .slice M3 r3 e3] 29) := ⟨_, rfl⟩
  have hbW : Below w.heap.size w W := by rw [hW]; exact (Below.refl _ _).alloc (Nat.le_refl _) _ |>.alloc (by simp) _
  have hG : Bk W w.heap.size 23 [.int .i64 j, .int .i64 i, .int .i64 g, .int .i64 p] := by rw [hW]; exact (geo_box w j i g p).below (al_below _ _) (by simp)
  have hM : Bk W (w.heap.size + 1) 29 [.slice M0 r0 e0, .slice M1 r1 e1, .slice M2 r2 e2, .slice M3 r3 e3] := by
    rw [hW]
    have := Bk.new (w.alloc (.cells #[.int .i64 j, .int .i64 i, .int .i64 g, .int .i64 p] 23)) 29 [.slice M0 r0 e0, .slice M1 r1 e1, .slice M2 r2 e2, .slice M3 r3 e3]
    simpa using this
  have HG := Lib.hid hG
  have HM := Lib.hid hM
  have HB := Lib.hid hbW
  have HW := Lib.hid hW
  have HLW := Lib.hid (hl.later hbW)
  have HBW := Lib.hid (Below.refl W.heap.size W)
  have HMW : Hid (w.heap.size + 1 < W.heap.size) := Lib.hid hM.lt
  obtain ⟨g0, g1, g2, g3⟩ := four_cells hG
  obtain ⟨q0, q1, q2, q3⟩ := four_cells hM
  have hltg := hG.lt
  have hltm := hM.lt
  obtain ⟨s0, s1, s2, s3⟩ := small_yes hsm
  have HS : Hid (∀ u : World, Calls Try.prog 10 #[.agg #[.slice M0 r0 e0, .slice M1 r1 e1, .slice M2 r2 e2, .slice M3 r3 e3]] u fun e w' => e = .returned (.bool true) ∧ Below u.heap.size u w') := Lib.hid (fun u => by
    have := small_in M0 M1 M2 M3 r0 e0 r1 e1 r2 e2 r3 e3 u
    rwa [hsm] at this)
  have HRIGHT : Hid (∀ u : World, Below W.heap.size W u → Calls Try.prog 16 #[.agg #[.int .i64 j, .int .i64 i, .int .i64 g, .int .i64 p], .agg #[.slice M0 r0 e0, .slice M1 r1 e1, .slice M2 r2 e2, .slice M3 r3 e3]] u fun e w' => e = .returned (.bool true) ∧ Below u.heap.size u w') := Lib.hid (fun u hu => by
    have := right_in j i g p m ho M0 M1 M2 M3 r0 e0 r1 e1 r2 e2 r3 e3 u h0 h1 h2 h3 (HLW.out.later hu) (by omega)
    rwa [rightB_yes hR] at this)
  have HCOPY : Hid (∀ u : World, Below W.heap.size W u → Calls Try.prog 22 #[.agg #[.slice M0 r0 e0, .slice M1 r1 e1, .slice M2 r2 e2, .slice M3 r3 e3]] u fun e w' => ∃ A0 k0 A1 k1 A2 k2 A3 k3, e = .returned (.agg #[.slice A0 r0 k0, .slice A1 r1 k1, .slice A2 r2 k2, .slice A3 r3 k3]) ∧ OwnM w' u.heap.size ⟨A0, k0, A1, k1, A2, k2, A3, k3⟩ m ∧ Below u.heap.size u w') := Lib.hid (fun u hu => by
    have := copy_in m ho M0 M1 M2 M3 r0 e0 r1 e1 r2 e2 r3 e3 u h0 h1 h2 h3 (HLW.out.later hu) (by omega)
    refine this.mono ?_
    rintro e w' ⟨⟨A0, k0, A1, k1, A2, k2, A3, k3⟩, he, ho, hb⟩
    exact ⟨A0, k0, A1, k1, A2, k2, A3, k3, by rw [he, ← h0, ← h1, ← h2, ← h3]; rfl, ho, hb⟩)
  have HLAY : Hid (∀ u : World, Below W.heap.size W u → Calls Try.prog 13 #[.agg #[.int .i64 j, .int .i64 i, .int .i64 g, .int .i64 p], .agg #[.slice M0 r0 e0, .slice M1 r1 e1, .slice M2 r2 e2, .slice M3 r3 e3]] u fun e w' => HandsL u (secs m, 0) e w') := Lib.hid (fun u hu => by
    have := lay_in j i g p m ho M0 M1 M2 M3 r0 e0 r1 e1 r2 e2 r3 e3 u h0 h1 h2 h3 (HLW.out.later hu) (by omega)
    rwa [lay_yes hR] at this)
  have hl16 := hR.rows.len
  have hu64 := hR.ulen
  have hol := hR.olen
  have hil := hR.ilen
  have hg1 := hR.geo.g1
  have hi1 := hR.geo.i1
  have hi2 := hR.geo.i2
  simp only at hol hil hg1 hi1 hi2
  have hq5 := length_secs hR
  simp only at hq5
  have p0 : 0 < r0 := by omega
  have p1 : 0 < r1 := by omega
  have p2 : 0 < r2 := by omega
  have p3 : 0 < r3 := by omega
  obtain ⟨b, hb⟩ : ∃ b, m.used[0]? = some b := ⟨_, List.getElem?_eq_getElem (by rw [h2]; exact p2)⟩
  have hR' := right_used hR hb
  have hone := one_used hR ho hb
  have ho' : Okm { m with used := m.used.set 0 (b ^^^ 1) } := ⟨ho.rows, ho.own, ho.ino⟩
  have hlen1 : (m.used.set 0 (b ^^^ 1)).length = r2 := by rw [List.length_set, h2]
  have HLAY2 : Hid (∀ (u : World) (A0 A1 A2 A3 : Option Addr) (k0 k1 k2 k3 : Nat), Lies u u.heap.size ⟨A0, k0, A1, k1, A2, k2, A3, k3⟩ { m with used := m.used.set 0 (b ^^^ 1) } → Calls Try.prog 13 #[.agg #[.int .i64 j, .int .i64 i, .int .i64 g, .int .i64 p], .agg #[.slice A0 r0 k0, .slice A1 r1 k1, .slice A2 r2 k2, .slice A3 r3 k3]] u fun e w' => HandsL u (secs { m with used := m.used.set 0 (b ^^^ 1) }, 0) e w') := Lib.hid (fun u A0 A1 A2 A3 k0 k1 k2 k3 hl => by
    have := lay_in j i g p { m with used := m.used.set 0 (b ^^^ 1) } ho' A0 A1 A2 A3 r0 k0 r1 k1 r2 k2 r3 k3 u h0 h1 hlen1 h3 hl (by omega)
    rwa [lay_yes hR'] at this)
  obtain ⟨l1, hl1⟩ : ∃ l1, secs m = l1 := ⟨_, rfl⟩
  obtain ⟨l2, hl2⟩ : ∃ l2, secs { m with used := m.used.set 0 (b ^^^ 1) } = l2 := ⟨_, rfl⟩
  rw [hl1] at HLAY hone hq5
  rw [hl2] at HLAY2 hone
  obtain ⟨q, hq⟩ : ∃ q, l1.length = q := ⟨_, rfl⟩
  rw [hq] at hone hq5
  have HONE := Lib.hid hone
  have HQ1 := Lib.hid hone.len
  have HQ2 := Lib.hid hone.len'
  obtain ⟨dd, hdd⟩ : ∃ dd, 2 = dd := ⟨_, rfl⟩
  rw [hdd] at HONE
  have hq40 : q ≤ 40 := by omega
  have z0 : ((r0 : Int) == 0) = false := by simp; omega
  have z1 : ((r1 : Int) == 0) = false := by simp; omega
  have z2 : ((r2 : Int) == 0) = false := by simp; omega
  have z3 : ((r3 : Int) == 0) = false := by simp; omega
  have hkw : (wq : Int) % 3 = 1 := by omega
  have H0 := Lib.hid h0
  have H1 := Lib.hid h1
  have H2 := Lib.hid h2
  have H3 := Lib.hid h3
  have HOKM := Lib.hid ho
  clear h0 h1 h2 h3 ho ho' hlen1 hsm hbW hG hM hW hl hR hR' hone hq hq5 hl1 hl2 hdd hl16 hu64 hol hil hg1 hi1 hi2
  go_enter Try.func7, Try.ntmps7
  go_upto_region 1 with fail
  rw [← HW.out]
  go_upto_region 5 with (first
    | (go_at_call 9; (with_reducible refine (shown_any _).mono ?_); rintro e w1 ⟨he, hb⟩; obtain rfl := he; replace HBW := Lib.hid (HBW.out.trans (hb.mono HBW.out.size)); replace HG := Lib.hid (HG.out.below hb HG.out.lt); replace HM := Lib.hid (HM.out.below hb HM.out.lt); clear g0 g1 g2 g3 q0 q1 q2 q3 hltg hltm hb; obtain ⟨g0, g1, g2, g3⟩ := four_cells HG.out; have hltg := HG.out.lt; obtain ⟨q0, q1, q2, q3⟩ := four_cells HM.out; have hltm := HM.out.lt)
    | (go_at_call 10; (with_reducible refine (HS.out _).mono ?_); rintro e w2 ⟨he, hb⟩; obtain rfl := he; replace HBW := Lib.hid (HBW.out.trans (hb.mono HBW.out.size)); replace HG := Lib.hid (HG.out.below hb HG.out.lt); replace HM := Lib.hid (HM.out.below hb HM.out.lt); clear g0 g1 g2 g3 q0 q1 q2 q3 hltg hltm hb; obtain ⟨g0, g1, g2, g3⟩ := four_cells HG.out; have hltg := HG.out.lt; obtain ⟨q0, q1, q2, q3⟩ := four_cells HM.out; have hltm := HM.out.lt)
    | (go_at_call 16; (with_reducible refine (HRIGHT.out _ HBW.out).mono ?_); rintro e w3 ⟨he, hb⟩; obtain rfl := he; replace HBW := Lib.hid (HBW.out.trans (hb.mono HBW.out.size)); replace HG := Lib.hid (HG.out.below hb HG.out.lt); replace HM := Lib.hid (HM.out.below hb HM.out.lt); clear g0 g1 g2 g3 q0 q1 q2 q3 hltg hltm hb; obtain ⟨g0, g1, g2, g3⟩ := four_cells HG.out; have hltg := HG.out.lt; obtain ⟨q0, q1, q2, q3⟩ := four_cells HM.out; have hltm := HM.out.lt)
    | (go_at_call 22; (with_reducible refine (HCOPY.out _ HBW.out).mono ?_); have HBW0 := HBW; rintro e w4 hh; obtain ⟨A0, k0, A1, k1, A2, k2, A3, k3, he, ho2, hb⟩ := hh; obtain rfl := he; replace HBW := Lib.hid (HBW.out.trans (hb.mono HBW.out.size)); replace HG := Lib.hid (HG.out.below hb HG.out.lt); replace HM := Lib.hid (HM.out.below hb HM.out.lt); have HO := Lib.hid (ho2.base HBW0.out.size); clear ho2; clear g0 g1 g2 g3 q0 q1 q2 q3 hltg hltm hb; obtain ⟨g0, g1, g2, g3⟩ := four_cells HG.out; have hltg := HG.out.lt; obtain ⟨q0, q1, q2, q3⟩ := four_cells HM.out; have hltm := HM.out.lt))
  have HM4 : Hid (W.heap.size ≤ w4.heap.size) := Lib.hid HBW.out.size
  have hal := al_below w4 (.cells #[.slice A0 r0 k0, .slice A1 r1 k1, .slice A2 r2 k2, .slice A3 r3 k3] 29)
  replace HBW := Lib.hid (HBW.out.trans (hal.mono HBW.out.size))
  replace HG := Lib.hid (HG.out.below hal HG.out.lt)
  replace HM := Lib.hid (HM.out.below hal HM.out.lt)
  replace HO := Lib.hid (HO.out.below hal)
  have HV := Lib.hid (Bk.new w4 29 [.slice A0 r0 k0, .slice A1 r1 k1, .slice A2 r2 k2, .slice A3 r3 k3])
  clear hal g0 g1 g2 g3 q0 q1 q2 q3 hltg hltm HBW0
  generalize hM10 : w4.heap.size = m10 at *
  generalize w4.alloc (.cells #[.slice A0 r0 k0, .slice A1 r1 k1, .slice A2 r2 k2, .slice A3 r3 k3] 29) = w5 at *
  obtain ⟨g0, g1, g2, g3⟩ := four_cells HG.out
  obtain ⟨q0, q1, q2, q3⟩ := four_cells HM.out
  obtain ⟨x0, x1, x2, x3⟩ := four_cells HV.out
  obtain ⟨gu, hgu, hgu1, hgu2⟩ := own_at HO.out.used (by have := H2.out; omega)
  have hgu : A2 = some ⟨gu, 0, none⟩ := hgu
  subst hgu
  have hxo := xor_one b
  obtain ⟨cb, hcb⟩ : ∃ cb, b ^^^ 1 = cb := ⟨_, rfl⟩
  rw [hcb] at hxo HLAY2
  clear hcb
  obtain ⟨ho3, hgb⟩ := HO.out.byte rfl 0 cb
  have hcx : w5.cell? ⟨gu, 0, none⟩ = some (.int .u8 (b.toNat : Int)) := by
    have := HO.out.used.cellAt 0 (by have := H2.out; omega)
    rw [this, bytesV, List.getElem?_map, hb]; rfl
  have hfx := HO.out.used.frozenAt 0
  have hgne : gu ≠ m10 := fun e => bk_ne HV.out HO.out.used (by decide) (by simp [Value.ownBlock, e])
  have hp2 : (0 : Int) < (r2 : Int) := by omega
  go_upto_region 17 with fail
  have HO6 := Lib.hid ho3
  have HBW6 := Lib.hid (HBW.out.setCell (p := ⟨gu, 0, none⟩) hgb (.int .u8 (cb.toNat : Int)))
  have HG6 := Lib.hid (bk_set HG.out ⟨gu, 0, none⟩ (.int .u8 (cb.toNat : Int)) (by show w.heap.size ≠ gu; have := HMW.out; omega))
  have HM6 := Lib.hid (bk_set HM.out ⟨gu, 0, none⟩ (.int .u8 (cb.toNat : Int)) (by show w.heap.size + 1 ≠ gu; have := HMW.out; omega))
  have HV6 := Lib.hid (bk_set HV.out ⟨gu, 0, none⟩ (.int .u8 (cb.toNat : Int)) (by show m10 ≠ gu; exact Ne.symm hgne))
  clear HBW HG HM HV HO ho3 hcx hfx hxo hp2 hgne hgb g0 g1 g2 g3 q0 q1 q2 q3 x0 x1 x2 x3
  generalize w5.setCell ⟨gu, 0, none⟩ (.int .u8 (cb.toNat : Int)) = w6 at *
  have HO := HO6
  have HBW := HBW6
  have HG := HG6
  have HM := HM6
  have HV := HV6
  clear HO6 HBW6 HG6 HM6 HV6
  obtain ⟨g0, g1, g2, g3⟩ := four_cells HG.out
  obtain ⟨q0, q1, q2, q3⟩ := four_cells HM.out
  obtain ⟨x0, x1, x2, x3⟩ := four_cells HV.out
  go_wp2_with (first
    | (go_at_call 13; (with_reducible refine (HLAY.out _ HBW.out).mono ?_); rintro e w7 hh; obtain ⟨C1, c1, L1, he, -, -, -, hsa, hb⟩ := hh.got; rw [HQ1.out] at he; obtain rfl := he; replace HBW := Lib.hid (HBW.out.trans (hb.mono HBW.out.size)); replace HG := Lib.hid (HG.out.below hb HG.out.lt); replace HM := Lib.hid (HM.out.below hb HM.out.lt); replace HV := Lib.hid (HV.out.below hb HV.out.lt); replace HO := Lib.hid (HO.out.below hb); have HT1 := Lib.hid hsa; clear hsa; clear g0 g1 g2 g3 q0 q1 q2 q3 x0 x1 x2 x3 hb; obtain ⟨g0, g1, g2, g3⟩ := four_cells HG.out; obtain ⟨q0, q1, q2, q3⟩ := four_cells HM.out; obtain ⟨x0, x1, x2, x3⟩ := four_cells HV.out)
    | (go_at_call 13; (with_reducible refine (HLAY2.out _ _ _ _ _ _ _ _ _ HO.out.lies).mono ?_); rintro e w8 hh; obtain ⟨C2, c2, L2, he, -, -, -, hsa, hb⟩ := hh.got; rw [HQ2.out] at he; obtain rfl := he; replace HBW := Lib.hid (HBW.out.trans (hb.mono HBW.out.size)); replace HG := Lib.hid (HG.out.below hb HG.out.lt); replace HM := Lib.hid (HM.out.below hb HM.out.lt); replace HV := Lib.hid (HV.out.below hb HV.out.lt); replace HO := Lib.hid (HO.out.below hb); replace HT1 := Lib.hid (HT1.out.later hb); have HT2 := Lib.hid hsa; clear hsa; clear g0 g1 g2 g3 q0 q1 q2 q3 x0 x1 x2 x3 hb; obtain ⟨g0, g1, g2, g3⟩ := four_cells HG.out; obtain ⟨q0, q1, q2, q3⟩ := four_cells HM.out; obtain ⟨x0, x1, x2, x3⟩ := four_cells HV.out))
  clear g0 g1 g2 g3 q0 q1 q2 q3 x0 x1 x2 x3
  go_loopw [18, 19, 133] (fun cn _ k wr => ∃ a : Nat, k = .int .i64 (a : Int) ∧ a ≤ q ∧ cn = .int .i64 (if dd < a then 1 else 0) ∧ Hid (Below w8.heap.size w8 wr)) (fun _ _ k _ => q - (intOf k).toNat)
  case atStart => exact ⟨0, rfl, Nat.zero_le _, by simp, Lib.hid (Below.refl _ _)⟩
  case round =>
    obtain ⟨a, rfl, ha, rfl, HBR⟩ := hrel
    by_cases hlt : a < q
    · obtain ⟨x', hx'⟩ : ∃ x', l1[a]? = some x' := ⟨_, List.getElem?_eq_getElem (by rw [HQ1.out]; exact hlt)⟩
      obtain ⟨y', hy'⟩ : ∃ y', l2[a]? = some y' := ⟨_, List.getElem?_eq_getElem (by rw [HQ2.out]; exact hlt)⟩
      obtain ⟨bb1, oo1, hA1, -⟩ := HT1.out.first (by rw [HQ1.out]; omega)
      subst hA1
      obtain ⟨bb2, oo2, hA2, -⟩ := HT2.out.first (by rw [HQ2.out]; omega)
      subst hA2
      obtain ⟨S1, -, hcx1, hrx, -, -⟩ := (HT1.out.below HBR.out).get hx'
      obtain ⟨S2, -, hcy1, hry, -, -⟩ := (HT2.out.below HBR.out).get hy'
      have kx := fun k => str_sec (n := x'.length) (c := S1.c) rfl (hrx.drewN k)
      have ky := fun k => str_sec (n := y'.length) (c := S2.c) rfl (hry.drewN k)
      have ixy := str_cmp x' y'
      have hxy := HONE.out.sym a x' y' hx' hy'
      rw [hxy] at ixy
      generalize (⟨x'.toArray⟩ : ByteArray) = X at *
      generalize (⟨y'.toArray⟩ : ByteArray) = Y at *
      have hlti : (a : Int) < (q : Int) := by omega
      have hi0 : (0 : Int) ≤ (a : Int) := by omega
      have hiw : IntKind.i64.wrap ((a : Int) + 1) = ((a + 1 : Nat) : Int) := by rw [IntKind.wrap_i64]; omega
      clear hx' hy' hrx hry hxy
      by_cases hd : a = dd
      · have hnd : ¬ dd < a := by omega
        have hnd1 : dd < a + 1 := by omega
        have hdt : (!decide (a = dd)) = false := by simp [hd]
        rw [hdt] at ixy
        rw [if_neg hnd]
        clear hd hdt
        go_wp2_with fail
        go_quiet (fail)
        go_wp2
        have HB7 := Lib.hid (Inode.below_drewN HBR.out nq)
        go_roundw
        case rel => exact ⟨a + 1, by first | rfl | (congr 1), hlt, by rw [if_pos hnd1], HB7⟩
        case measure => simp [intOf]; omega
      · have hdt : (!decide (a = dd)) = true := by simp [hd]
        rw [hdt] at ixy
        have hcn : (if dd < a + 1 then (1 : Int) else 0) = if dd < a then 1 else 0 := by
          by_cases h : dd < a
          · rw [if_pos h, if_pos (by omega)]
          · rw [if_neg h, if_neg (by omega)]
        have HCN := Lib.hid hcn
        obtain ⟨cn, hcn2⟩ : ∃ cn : Int, (if dd < a then (1 : Int) else 0) = cn := ⟨_, rfl⟩
        rw [hcn2] at HCN ⊢
        clear hd hdt hcn hcn2
        go_wp2_with fail
        go_quiet (fail)
        go_wp2
        have HB7 := Lib.hid (Inode.below_drewN HBR.out nq)
        go_roundw
        case rel => exact ⟨a + 1, by first | rfl | (congr 1), hlt, by rw [HCN.out], HB7⟩
        case measure => simp [intOf]; omega
    · obtain rfl : a = q := by omega
      have hdq := HONE.out.lt
      rw [if_pos hdq]
      clear hdq
      go_wp2
      go_ret
      exact ⟨rfl, HB.out.trans ((HBW.out.trans (HBR.out.mono HBW.out.size)).mono HB.out.size)⟩
set_option maxRecDepth 100000 in
set_option maxHeartbeats 12800000 in
theorem one_w2 (j i g p : Int) (m : Meta.Met) (ho : Okm m) (M0 M1 M2 M3 : Option Addr) (r0 e0 r1 e1 r2 e2 r3 e3 : Nat) (wq aq : Nat) (w : World) (h0 : m.rows.length = r0) (h1 : m.own.length = r1) (h2 : m.used.length = r2) (h3 : m.ino.length = r3) (hl : Lies w w.heap.size ⟨M0, e0, M1, e1, M2, e2, M3, e3⟩ m) (hwq : wq < 256) (haq : aq < 256) (hsm : smallB r0 r1 r2 r3 = true) (hR : Meta.Right ⟨j, i, g, p⟩ m) (hk : wq % 3 = 2) :
    Calls Try.prog 7 #[.agg #[.int .i64 j, .int .i64 i, .int .i64 g, .int .i64 p], .agg #[.slice M0 r0 e0, .slice M1 r1 e1, .slice M2 r2 e2, .slice M3 r3 e3], .int .u8 (wq : Int), .int .u8 (aq : Int)] w fun e w' => e = .returned (.bool true) ∧ Below w.heap.size w w' := by
  obtain ⟨W, hW⟩ : ∃ W, W = (w.alloc (.cells #[.int .i64 j, .int .i64 i, .int .i64 g, .int .i64 p] 23)).alloc (.cells #[.slice M0 r0 e0, .slice M1 r1 e1, .slice M2 r2 e2, .slice M3 r3 e3] 29) := ⟨_, rfl⟩
  have hbW : Below w.heap.size w W := by rw [hW]; exact (Below.refl _ _).alloc (Nat.le_refl _) _ |>.alloc (by simp) _
  have hG : Bk W w.heap.size 23 [.int .i64 j, .int .i64 i, .int .i64 g, .int .i64 p] := by rw [hW]; exact (geo_box w j i g p).below (al_below _ _) (by simp)
  have hM : Bk W (w.heap.size + 1) 29 [.slice M0 r0 e0, .slice M1 r1 e1, .slice M2 r2 e2, .slice M3 r3 e3] := by
    rw [hW]
    have := Bk.new (w.alloc (.cells #[.int .i64 j, .int .i64 i, .int .i64 g, .int .i64 p] 23)) 29 [.slice M0 r0 e0, .slice M1 r1 e1, .slice M2 r2 e2, .slice M3 r3 e3]
    simpa using this
  have HG := Lib.hid hG
  have HM := Lib.hid hM
  have HB := Lib.hid hbW
  have HW := Lib.hid hW
  have HLW := Lib.hid (hl.later hbW)
  have HBW := Lib.hid (Below.refl W.heap.size W)
  have HMW : Hid (w.heap.size + 1 < W.heap.size) := Lib.hid hM.lt
  obtain ⟨g0, g1, g2, g3⟩ := four_cells hG
  obtain ⟨q0, q1, q2, q3⟩ := four_cells hM
  have hltg := hG.lt
  have hltm := hM.lt
  obtain ⟨s0, s1, s2, s3⟩ := small_yes hsm
  have HS : Hid (∀ u : World, Calls Try.prog 10 #[.agg #[.slice M0 r0 e0, .slice M1 r1 e1, .slice M2 r2 e2, .slice M3 r3 e3]] u fun e w' => e = .returned (.bool true) ∧ Below u.heap.size u w') := Lib.hid (fun u => by
    have := small_in M0 M1 M2 M3 r0 e0 r1 e1 r2 e2 r3 e3 u
    rwa [hsm] at this)
  have HRIGHT : Hid (∀ u : World, Below W.heap.size W u → Calls Try.prog 16 #[.agg #[.int .i64 j, .int .i64 i, .int .i64 g, .int .i64 p], .agg #[.slice M0 r0 e0, .slice M1 r1 e1, .slice M2 r2 e2, .slice M3 r3 e3]] u fun e w' => e = .returned (.bool true) ∧ Below u.heap.size u w') := Lib.hid (fun u hu => by
    have := right_in j i g p m ho M0 M1 M2 M3 r0 e0 r1 e1 r2 e2 r3 e3 u h0 h1 h2 h3 (HLW.out.later hu) (by omega)
    rwa [rightB_yes hR] at this)
  have HCOPY : Hid (∀ u : World, Below W.heap.size W u → Calls Try.prog 22 #[.agg #[.slice M0 r0 e0, .slice M1 r1 e1, .slice M2 r2 e2, .slice M3 r3 e3]] u fun e w' => ∃ A0 k0 A1 k1 A2 k2 A3 k3, e = .returned (.agg #[.slice A0 r0 k0, .slice A1 r1 k1, .slice A2 r2 k2, .slice A3 r3 k3]) ∧ OwnM w' u.heap.size ⟨A0, k0, A1, k1, A2, k2, A3, k3⟩ m ∧ Below u.heap.size u w') := Lib.hid (fun u hu => by
    have := copy_in m ho M0 M1 M2 M3 r0 e0 r1 e1 r2 e2 r3 e3 u h0 h1 h2 h3 (HLW.out.later hu) (by omega)
    refine this.mono ?_
    rintro e w' ⟨⟨A0, k0, A1, k1, A2, k2, A3, k3⟩, he, ho, hb⟩
    exact ⟨A0, k0, A1, k1, A2, k2, A3, k3, by rw [he, ← h0, ← h1, ← h2, ← h3]; rfl, ho, hb⟩)
  have HLAY : Hid (∀ u : World, Below W.heap.size W u → Calls Try.prog 13 #[.agg #[.int .i64 j, .int .i64 i, .int .i64 g, .int .i64 p], .agg #[.slice M0 r0 e0, .slice M1 r1 e1, .slice M2 r2 e2, .slice M3 r3 e3]] u fun e w' => HandsL u (secs m, 0) e w') := Lib.hid (fun u hu => by
    have := lay_in j i g p m ho M0 M1 M2 M3 r0 e0 r1 e1 r2 e2 r3 e3 u h0 h1 h2 h3 (HLW.out.later hu) (by omega)
    rwa [lay_yes hR] at this)
  have hl16 := hR.rows.len
  have hu64 := hR.ulen
  have hol := hR.olen
  have hil := hR.ilen
  have hg1 := hR.geo.g1
  have hi1 := hR.geo.i1
  have hi2 := hR.geo.i2
  simp only at hol hil hg1 hi1 hi2
  have hq5 := length_secs hR
  simp only at hq5
  have p0 : 0 < r0 := by omega
  have p1 : 0 < r1 := by omega
  have p2 : 0 < r2 := by omega
  have p3 : 0 < r3 := by omega
  obtain ⟨ii, hii⟩ : ∃ ii, aq % r3 = ii := ⟨_, rfl⟩
  have hir : ii < r3 := by rw [← hii]; exact Nat.mod_lt _ p3
  obtain ⟨n, hn⟩ : ∃ n, m.ino[ii]? = some n := ⟨_, List.getElem?_eq_getElem (by rw [h3]; exact hir)⟩
  have hmod : (aq : Int) % (r3 : Int) = (ii : Int) := by rw [← hii]; exact (Int.natCast_emod _ _).symm
  have hR' := right_ino hR hn
  have hone := one_node hR ho hn
  have hon := ho.ino n (List.mem_of_getElem? hn)
  have hrn := hR.ino n (List.mem_of_getElem? hn)
  have ho' : Okm { m with ino := m.ino.set ii (newI n) } := okm_ino ho (oki_newI hon)
  have hlen1 : (m.ino.set ii (newI n)).length = r3 := by rw [List.length_set, h3]
  have HLAY2 : Hid (∀ (u : World) (A0 A1 A2 A3 : Option Addr) (k0 k1 k2 k3 : Nat), Lies u u.heap.size ⟨A0, k0, A1, k1, A2, k2, A3, k3⟩ { m with ino := m.ino.set ii (newI n) } → Calls Try.prog 13 #[.agg #[.int .i64 j, .int .i64 i, .int .i64 g, .int .i64 p], .agg #[.slice A0 r0 k0, .slice A1 r1 k1, .slice A2 r2 k2, .slice A3 r3 k3]] u fun e w' => HandsL u (secs { m with ino := m.ino.set ii (newI n) }, 0) e w') := Lib.hid (fun u A0 A1 A2 A3 k0 k1 k2 k3 hl => by
    have := lay_in j i g p { m with ino := m.ino.set ii (newI n) } ho' A0 A1 A2 A3 r0 k0 r1 k1 r2 k2 r3 k3 u h0 h1 h2 hlen1 hl (by omega)
    rwa [lay_yes hR'] at this)
  obtain ⟨l1, hl1⟩ : ∃ l1, secs m = l1 := ⟨_, rfl⟩
  obtain ⟨l2, hl2⟩ : ∃ l2, secs { m with ino := m.ino.set ii (newI n) } = l2 := ⟨_, rfl⟩
  rw [hl1] at HLAY hone hq5
  rw [hl2] at HLAY2 hone
  obtain ⟨q, hq⟩ : ∃ q, l1.length = q := ⟨_, rfl⟩
  rw [hq] at hone hq5
  have HONE := Lib.hid hone
  have HQ1 := Lib.hid hone.len
  have HQ2 := Lib.hid hone.len'
  obtain ⟨dd, hdd⟩ : ∃ dd, 3 + ii / 2 = dd := ⟨_, rfl⟩
  rw [hdd] at HONE
  have hq40 : q ≤ 40 := by omega
  have z0 : ((r0 : Int) == 0) = false := by simp; omega
  have z1 : ((r1 : Int) == 0) = false := by simp; omega
  have z2 : ((r2 : Int) == 0) = false := by simp; omega
  have z3 : ((r3 : Int) == 0) = false := by simp; omega
  have hkw : (wq : Int) % 3 = 2 := by omega
  have H0 := Lib.hid h0
  have H1 := Lib.hid h1
  have H2 := Lib.hid h2
  have H3 := Lib.hid h3
  have HOKM := Lib.hid ho
  clear h0 h1 h2 h3 ho ho' hlen1 hsm hbW hG hM hW hl hR hR' hone hq hq5 hl1 hl2 hdd hl16 hu64 hol hil hg1 hi1 hi2
  go_enter Try.func7, Try.ntmps7
  go_upto_region 1 with fail
  rw [← HW.out]
  go_upto_region 5 with (first
    | (go_at_call 9; (with_reducible refine (shown_any _).mono ?_); rintro e w1 ⟨he, hb⟩; obtain rfl := he; replace HBW := Lib.hid (HBW.out.trans (hb.mono HBW.out.size)); replace HG := Lib.hid (HG.out.below hb HG.out.lt); replace HM := Lib.hid (HM.out.below hb HM.out.lt); clear g0 g1 g2 g3 q0 q1 q2 q3 hltg hltm hb; obtain ⟨g0, g1, g2, g3⟩ := four_cells HG.out; have hltg := HG.out.lt; obtain ⟨q0, q1, q2, q3⟩ := four_cells HM.out; have hltm := HM.out.lt)
    | (go_at_call 10; (with_reducible refine (HS.out _).mono ?_); rintro e w2 ⟨he, hb⟩; obtain rfl := he; replace HBW := Lib.hid (HBW.out.trans (hb.mono HBW.out.size)); replace HG := Lib.hid (HG.out.below hb HG.out.lt); replace HM := Lib.hid (HM.out.below hb HM.out.lt); clear g0 g1 g2 g3 q0 q1 q2 q3 hltg hltm hb; obtain ⟨g0, g1, g2, g3⟩ := four_cells HG.out; have hltg := HG.out.lt; obtain ⟨q0, q1, q2, q3⟩ := four_cells HM.out; have hltm := HM.out.lt)
    | (go_at_call 16; (with_reducible refine (HRIGHT.out _ HBW.out).mono ?_); rintro e w3 ⟨he, hb⟩; obtain rfl := he; replace HBW := Lib.hid (HBW.out.trans (hb.mono HBW.out.size)); replace HG := Lib.hid (HG.out.below hb HG.out.lt); replace HM := Lib.hid (HM.out.below hb HM.out.lt); clear g0 g1 g2 g3 q0 q1 q2 q3 hltg hltm hb; obtain ⟨g0, g1, g2, g3⟩ := four_cells HG.out; have hltg := HG.out.lt; obtain ⟨q0, q1, q2, q3⟩ := four_cells HM.out; have hltm := HM.out.lt)
    | (go_at_call 22; (with_reducible refine (HCOPY.out _ HBW.out).mono ?_); have HBW0 := HBW; rintro e w4 hh; obtain ⟨A0, k0, A1, k1, A2, k2, A3, k3, he, ho2, hb⟩ := hh; obtain rfl := he; replace HBW := Lib.hid (HBW.out.trans (hb.mono HBW.out.size)); replace HG := Lib.hid (HG.out.below hb HG.out.lt); replace HM := Lib.hid (HM.out.below hb HM.out.lt); have HO := Lib.hid (ho2.base HBW0.out.size); clear ho2; clear g0 g1 g2 g3 q0 q1 q2 q3 hltg hltm hb; obtain ⟨g0, g1, g2, g3⟩ := four_cells HG.out; have hltg := HG.out.lt; obtain ⟨q0, q1, q2, q3⟩ := four_cells HM.out; have hltm := HM.out.lt))
  have HM4 : Hid (W.heap.size ≤ w4.heap.size) := Lib.hid HBW.out.size
  have hal := al_below w4 (.cells #[.slice A0 r0 k0, .slice A1 r1 k1, .slice A2 r2 k2, .slice A3 r3 k3] 29)
  replace HBW := Lib.hid (HBW.out.trans (hal.mono HBW.out.size))
  replace HG := Lib.hid (HG.out.below hal HG.out.lt)
  replace HM := Lib.hid (HM.out.below hal HM.out.lt)
  replace HO := Lib.hid (HO.out.below hal)
  have HV := Lib.hid (Bk.new w4 29 [.slice A0 r0 k0, .slice A1 r1 k1, .slice A2 r2 k2, .slice A3 r3 k3])
  clear hal g0 g1 g2 g3 q0 q1 q2 q3 hltg hltm HBW0
  generalize hM10 : w4.heap.size = m10 at *
  generalize w4.alloc (.cells #[.slice A0 r0 k0, .slice A1 r1 k1, .slice A2 r2 k2, .slice A3 r3 k3] 29) = w5 at *
  obtain ⟨g0, g1, g2, g3⟩ := four_cells HG.out
  obtain ⟨q0, q1, q2, q3⟩ := four_cells HM.out
  obtain ⟨x0, x1, x2, x3⟩ := four_cells HV.out
  obtain ⟨gi, hgi, hgi1, hgi2⟩ := own_at HO.out.ino (by have := H3.out; omega)
  have hgi : A3 = some ⟨gi, 0, none⟩ := hgi
  subst hgi
  have hrg := rd_ino (own_rdk HO.out.ino).2.2 HOKM.out.ino hn
  rw [Nat.zero_add] at hrg
  obtain ⟨ho3, hgb⟩ := HO.out.inode HOKM.out.ino rfl (a := ii) (by have := H3.out; omega) (oki_newI hon)
  have hth := there_own HO.out.ino (a := ii) (by have := H3.out; omega)
  have hgne : gi ≠ m10 := fun e => bk_ne HV.out HO.out.ino (by decide) (by simp [Value.ownBlock, e])
  have hsr : 0 ≤ n.s ∧ n.s ≤ 3840 := by
    rcases hrn with rfl | h
    · exact ⟨by decide, by decide⟩
    · exact ⟨h.s0, h.s1⟩
  have HTH := Lib.hid hth
  have HSX := Lib.hid (size_ino' n hon)
  have HSN := Lib.hid (size_ino' (newI n) (oki_newI hon))
  have HCN := Lib.hid (Inode.length_cellsI (oki_newI hon))
  have HC1 := Lib.hid (cellsI_one (newI n))
  have HOKN := Lib.hid (oki_newI hon)
  obtain ⟨kk, rr, ll, ss, ps⟩ := n
  obtain ⟨p0', p1', p2', p3', p4', p5', p6', p7', p8', p9', hp⟩ := Inode.ten_of hon.len
  simp only at hp
  subst hp
  simp only [newI] at ho3 HSN HCN HC1 HOKN HLAY2
  have hsr : 0 ≤ ss ∧ ss ≤ 3840 := hsr
  have hsw : IntKind.i64.wrap (ss + 1) = ss + 1 := by rw [IntKind.wrap_i64]; omega
  have hal : IntKind.i64.wrap (aq : Int) = (aq : Int) := by rw [IntKind.wrap_i64]; omega
  have hii0 : (0 : Int) ≤ (ii : Int) := by omega
  have hiil : (ii : Int) < (r3 : Int) := by omega
  have hne0 : (r3 : Int) ≠ 0 := by omega
  have HRG := Lib.hid hrg
  clear hrg hth hon hrn hn
  simp only [Inode.cellsI, Inode.intsV, List.map_cons, List.map_nil] at HRG HSX
  clear ho3
  go_upto_region 11 with (refine wpList_load_mid rfl 52 (.tmp 66) rfl gi (ii * 14) rfl _ _ HRG.out Try.underlying52 rfl HSX.out ?_)
  have hcl0 : Inode.cellsI ⟨1, rr, ll, (ss + 1) % 3840, [p0', p1', p2', p3', p4', p5', p6', p7', p8', p9']⟩ = [.int .u8 1, .int .u8 (rr : Int), .int .i64 ll, .int .i64 ((ss + 1) % 3840), .int .i64 p0', .int .i64 p1', .int .i64 p2', .int .i64 p3', .int .i64 p4', .int .i64 p5', .int .i64 p6', .int .i64 p7', .int .i64 p8', .int .i64 p9'] := by simp only [Inode.cellsI, Inode.intsV, List.map_cons, List.map_nil]; rfl
  have hX := Bk.new w5 52 [.int .u8 1, .int .u8 (rr : Int), .int .i64 ll, .int .i64 ((ss + 1) % 3840), .int .i64 p0', .int .i64 p1', .int .i64 p2', .int .i64 p3', .int .i64 p4', .int .i64 p5', .int .i64 p6', .int .i64 p7', .int .i64 p8', .int .i64 p9']
  have hv := al_below w5 (.cells #[.int .u8 1, .int .u8 (rr : Int), .int .i64 ll, .int .i64 ((ss + 1) % 3840), .int .i64 p0', .int .i64 p1', .int .i64 p2', .int .i64 p3', .int .i64 p4', .int .i64 p5', .int .i64 p6', .int .i64 p7', .int .i64 p8', .int .i64 p9'] 52)
  have HM13 : Hid (W.heap.size ≤ w5.heap.size) := Lib.hid HBW.out.size
  replace HBW := Lib.hid (HBW.out.trans (hv.mono HBW.out.size))
  replace HO := Lib.hid (HO.out.below hv)
  replace HG := Lib.hid (HG.out.below hv HG.out.lt)
  replace HM := Lib.hid (HM.out.below hv HM.out.lt)
  replace HV := Lib.hid (HV.out.below hv HV.out.lt)
  clear hv g0 g1 g2 g3 q0 q1 q2 q3 x0 x1 x2 x3 HRG HSX HTH
  generalize w5.heap.size = m13 at *
  generalize w5.alloc (.cells #[.int .u8 1, .int .u8 (rr : Int), .int .i64 ll, .int .i64 ((ss + 1) % 3840), .int .i64 p0', .int .i64 p1', .int .i64 p2', .int .i64 p3', .int .i64 p4', .int .i64 p5', .int .i64 p6', .int .i64 p7', .int .i64 p8', .int .i64 p9'] 52) = u6 at *
  obtain ⟨cl, hcl⟩ : ∃ cl : List Value, [.int .u8 1, .int .u8 (rr : Int), .int .i64 ll, .int .i64 ((ss + 1) % 3840), .int .i64 p0', .int .i64 p1', .int .i64 p2', .int .i64 p3', .int .i64 p4', .int .i64 p5', .int .i64 p6', .int .i64 p7', .int .i64 p8', .int .i64 p9'] = cl := ⟨_, rfl⟩
  rw [hcl] at hcl0 hX
  have hsn := HSN.out
  rw [hcl0] at hsn
  have hcn := HCN.out
  rw [hcl0] at hcn
  have hc1 := HC1.out
  rw [hcl0] at hc1
  have HSZ := Lib.hid hsn
  have HONE1 := Lib.hid (all_oneCell_toArray hc1)
  have HRX : Hid (u6.rangeAt m13 0 cl) := Lib.hid (fun j v hv => by rw [Nat.zero_add, hX.cell]; exact hv)
  have HTHX : Hid (u6.there gi (ii * 14) cl.toArray.size) := Lib.hid (by
    have := there_own HO.out.ino (a := ii) (by have := H3.out; omega)
    rw [show cl.toArray.size = 14 from hcn]; exact this)
  obtain ⟨ho4, -⟩ := HO.out.inode HOKM.out.ino rfl (a := ii) (by have := H3.out; omega) (n := ⟨1, rr, ll, (ss + 1) % 3840, [p0', p1', p2', p3', p4', p5', p6', p7', p8', p9']⟩) HOKN.out
  rw [hcl0] at ho4
  have HO6 := Lib.hid ho4
  have HBW6 := Lib.hid (below_setCells hgb cl (ii * 14) HBW.out)
  have HG6 := Lib.hid (bk_setCells (g := w.heap.size) (gi := gi) (by have := HMW.out; omega) cl (ii * 14) HG.out)
  have HM6 := Lib.hid (bk_setCells (g := w.heap.size + 1) (gi := gi) (by have := HMW.out; omega) cl (ii * 14) HM.out)
  have HV6 := Lib.hid (bk_setCells (g := m10) (gi := gi) (Ne.symm hgne) cl (ii * 14) HV.out)
  obtain ⟨x0, x1, x2, x3⟩ := four_cells HV.out
  clear hsn hcn hc1 HSN HCN HC1 HOKN ho4 hcl hcl0 hX hsw hal
  go_upto_region 17 with (first
    | (refine wpList_load_mid rfl 52 (.tmp 13) rfl m13 0 rfl cl _ HRX.out Try.underlying52 rfl HSZ.out ?_)
    | (refine wpList_store_mid rfl 52 (.tmp 78) (.tmp 77) rfl gi (ii * 14) cl.toArray rfl rfl HTHX.out HSZ.out HONE1.out ?_))
  clear HBW HG HM HV HO HSZ HONE1 HRX HTHX hgne hgb x0 x1 x2 x3 hii0 hiil hne0
  change Code.wp _ _ _ _ (u6.setCells gi (ii * 14) cl)
  generalize u6.setCells gi (ii * 14) cl = w6 at *
  have HO := HO6
  have HBW := HBW6
  have HG := HG6
  have HM := HM6
  have HV := HV6
  clear HO6 HBW6 HG6 HM6 HV6
  obtain ⟨g0, g1, g2, g3⟩ := four_cells HG.out
  obtain ⟨q0, q1, q2, q3⟩ := four_cells HM.out
  obtain ⟨x0, x1, x2, x3⟩ := four_cells HV.out
  go_wp2_with (first
    | (go_at_call 13; (with_reducible refine (HLAY.out _ HBW.out).mono ?_); rintro e w7 hh; obtain ⟨C1, c1, L1, he, -, -, -, hsa, hb⟩ := hh.got; rw [HQ1.out] at he; obtain rfl := he; replace HBW := Lib.hid (HBW.out.trans (hb.mono HBW.out.size)); replace HG := Lib.hid (HG.out.below hb HG.out.lt); replace HM := Lib.hid (HM.out.below hb HM.out.lt); replace HV := Lib.hid (HV.out.below hb HV.out.lt); replace HO := Lib.hid (HO.out.below hb); have HT1 := Lib.hid hsa; clear hsa; clear g0 g1 g2 g3 q0 q1 q2 q3 x0 x1 x2 x3 hb; obtain ⟨g0, g1, g2, g3⟩ := four_cells HG.out; obtain ⟨q0, q1, q2, q3⟩ := four_cells HM.out; obtain ⟨x0, x1, x2, x3⟩ := four_cells HV.out)
    | (go_at_call 13; (with_reducible refine (HLAY2.out _ _ _ _ _ _ _ _ _ HO.out.lies).mono ?_); rintro e w8 hh; obtain ⟨C2, c2, L2, he, -, -, -, hsa, hb⟩ := hh.got; rw [HQ2.out] at he; obtain rfl := he; replace HBW := Lib.hid (HBW.out.trans (hb.mono HBW.out.size)); replace HG := Lib.hid (HG.out.below hb HG.out.lt); replace HM := Lib.hid (HM.out.below hb HM.out.lt); replace HV := Lib.hid (HV.out.below hb HV.out.lt); replace HO := Lib.hid (HO.out.below hb); replace HT1 := Lib.hid (HT1.out.later hb); have HT2 := Lib.hid hsa; clear hsa; clear g0 g1 g2 g3 q0 q1 q2 q3 x0 x1 x2 x3 hb; obtain ⟨g0, g1, g2, g3⟩ := four_cells HG.out; obtain ⟨q0, q1, q2, q3⟩ := four_cells HM.out; obtain ⟨x0, x1, x2, x3⟩ := four_cells HV.out))
  clear g0 g1 g2 g3 q0 q1 q2 q3 x0 x1 x2 x3
  go_loopw [18, 19, 133] (fun cn _ k wr => ∃ a : Nat, k = .int .i64 (a : Int) ∧ a ≤ q ∧ cn = .int .i64 (if dd < a then 1 else 0) ∧ Hid (Below w8.heap.size w8 wr)) (fun _ _ k _ => q - (intOf k).toNat)
  case atStart => exact ⟨0, rfl, Nat.zero_le _, by simp, Lib.hid (Below.refl _ _)⟩
  case round =>
    obtain ⟨a, rfl, ha, rfl, HBR⟩ := hrel
    by_cases hlt : a < q
    · obtain ⟨x', hx'⟩ : ∃ x', l1[a]? = some x' := ⟨_, List.getElem?_eq_getElem (by rw [HQ1.out]; exact hlt)⟩
      obtain ⟨y', hy'⟩ : ∃ y', l2[a]? = some y' := ⟨_, List.getElem?_eq_getElem (by rw [HQ2.out]; exact hlt)⟩
      obtain ⟨bb1, oo1, hA1, -⟩ := HT1.out.first (by rw [HQ1.out]; omega)
      subst hA1
      obtain ⟨bb2, oo2, hA2, -⟩ := HT2.out.first (by rw [HQ2.out]; omega)
      subst hA2
      obtain ⟨S1, -, hcx1, hrx, -, -⟩ := (HT1.out.below HBR.out).get hx'
      obtain ⟨S2, -, hcy1, hry, -, -⟩ := (HT2.out.below HBR.out).get hy'
      have kx := fun k => str_sec (n := x'.length) (c := S1.c) rfl (hrx.drewN k)
      have ky := fun k => str_sec (n := y'.length) (c := S2.c) rfl (hry.drewN k)
      have ixy := str_cmp x' y'
      have hxy := HONE.out.sym a x' y' hx' hy'
      rw [hxy] at ixy
      generalize (⟨x'.toArray⟩ : ByteArray) = X at *
      generalize (⟨y'.toArray⟩ : ByteArray) = Y at *
      have hlti : (a : Int) < (q : Int) := by omega
      have hi0 : (0 : Int) ≤ (a : Int) := by omega
      have hiw : IntKind.i64.wrap ((a : Int) + 1) = ((a + 1 : Nat) : Int) := by rw [IntKind.wrap_i64]; omega
      clear hx' hy' hrx hry hxy
      by_cases hd : a = dd
      · have hnd : ¬ dd < a := by omega
        have hnd1 : dd < a + 1 := by omega
        have hdt : (!decide (a = dd)) = false := by simp [hd]
        rw [hdt] at ixy
        rw [if_neg hnd]
        clear hd hdt
        go_wp2_with fail
        go_quiet (fail)
        go_wp2
        have HB7 := Lib.hid (Inode.below_drewN HBR.out nq)
        go_roundw
        case rel => exact ⟨a + 1, by first | rfl | (congr 1), hlt, by rw [if_pos hnd1], HB7⟩
        case measure => simp [intOf]; omega
      · have hdt : (!decide (a = dd)) = true := by simp [hd]
        rw [hdt] at ixy
        have hcn : (if dd < a + 1 then (1 : Int) else 0) = if dd < a then 1 else 0 := by
          by_cases h : dd < a
          · rw [if_pos h, if_pos (by omega)]
          · rw [if_neg h, if_neg (by omega)]
        have HCN := Lib.hid hcn
        obtain ⟨cn, hcn2⟩ : ∃ cn : Int, (if dd < a then (1 : Int) else 0) = cn := ⟨_, rfl⟩
        rw [hcn2] at HCN ⊢
        clear hd hdt hcn hcn2
        go_wp2_with fail
        go_quiet (fail)
        go_wp2
        have HB7 := Lib.hid (Inode.below_drewN HBR.out nq)
        go_roundw
        case rel => exact ⟨a + 1, by first | rfl | (congr 1), hlt, by rw [HCN.out], HB7⟩
        case measure => simp [intOf]; omega
    · obtain rfl : a = q := by omega
      have hdq := HONE.out.lt
      rw [if_pos hdq]
      clear hdq
      go_wp2
      go_ret
      exact ⟨rfl, HB.out.trans ((HBW.out.trans (HBR.out.mono HBW.out.size)).mono HB.out.size)⟩
theorem one_walk (j i g p : Int) (x : Mem) (m : Meta.Met) (ho : Okm m) (a b : Int) (ha : 0 ≤ a ∧ a ≤ 255) (hb : 0 ≤ b ∧ b ≤ 255) (w : World) (hl : Lies w w.heap.size x m) :
    Calls Try.prog 7 #[.agg #[.int .i64 j, .int .i64 i, .int .i64 g, .int .i64 p], x.v m, .int .u8 a, .int .u8 b] w fun e w' => e = .returned (.bool true) ∧ Below w.heap.size w w' := by
  obtain ⟨wq, rfl⟩ := Int.eq_ofNat_of_zero_le ha.1
  obtain ⟨aq, rfl⟩ := Int.eq_ofNat_of_zero_le hb.1
  have hw : wq < 256 := by omega
  have hq : aq < 256 := by omega
  cases hsm : smallB m.rows.length m.own.length m.used.length m.ino.length with
  | false => exact one_great j i g p m ho x.rA x.oA x.uA x.iA _ x.rc _ x.oc _ x.uc _ x.ic wq aq w rfl rfl rfl rfl hl hw hq hsm
  | true =>
    by_cases hR : Meta.Right ⟨j, i, g, p⟩ m
    · have h3 : wq % 3 = 0 ∨ wq % 3 = 1 ∨ wq % 3 = 2 := by omega
      rcases h3 with h | h | h
      · exact one_w0 j i g p m ho x.rA x.oA x.uA x.iA _ x.rc _ x.oc _ x.uc _ x.ic wq aq w rfl rfl rfl rfl hl hw hq hsm hR h
      · exact one_w1 j i g p m ho x.rA x.oA x.uA x.iA _ x.rc _ x.oc _ x.uc _ x.ic wq aq w rfl rfl rfl rfl hl hw hq hsm hR h
      · exact one_w2 j i g p m ho x.rA x.oA x.uA x.iA _ x.rc _ x.oc _ x.uc _ x.ic wq aq w rfl rfl rfl rfl hl hw hq hsm hR h
    · exact one_not j i g p m ho x.rA x.oA x.uA x.iA _ x.rc _ x.oc _ x.uc _ x.ic wq aq w rfl rfl rfl rfl hl hw hq hsm hR

set_option maxRecDepth 100000 in
theorem one_contract (H : Type) (enc : TypeId × Value → H) (W : World) (base : Nat) (args : Array Value) (ds gs : List (DataW H)) (before : List MemPlace)
    (hval : ∀ (j : Nat) t v, Try.f7.params[j]? = some t → args[j]? = some v → Value.okWide Try.prog W .any base t v)
    (hW : DataW.Whole enc Try.prog Try.f7.params.toList Rows.metaOneSpec.vars false W args.toList ds gs before) :
    Calls Try.prog 7 args W fun e W' => ∃ v, e = .returned v ∧ Rows.metaOneSpec.post enc Try.prog Try.f7 false true false false W args v W' := by
  have hW' := hW
  have hlt : ∀ x ∈ before, x.block < W.heap.size := fun x hx => hW.lt x hx
  obtain ⟨p, q, hA0, hV, rfl, _, _⟩ := hW
  have hA : DataW.TrodAll enc Try.prog W 0 (fun _ => true) true Try.f7.params.toList args.toList ds p := hA0
  rw [Try.params7] at hA hval
  obtain ⟨v0, vs0, d0, ds0, p0, q0, hargs, rfl, rfl, h0, r0⟩ := trodAll_cons hA
  obtain ⟨v1, vs1, d1, ds1, p1, q1, rfl, rfl, rfl, h1, r1⟩ := trodAll_cons r0
  obtain ⟨v2, vs2, d2, ds2, p2, q2, rfl, rfl, rfl, h2, r2⟩ := trodAll_cons r1
  obtain ⟨v3, vs3, d3, ds3, p3, q3, rfl, rfl, rfl, h3, r3⟩ := trodAll_cons r2
  obtain ⟨rfl, rfl, rfl⟩ := trodAll_nil r3
  obtain rfl : args = #[v0, v1, v2, v3] := by cases args; simp_all
  obtain ⟨rfl, rfl⟩ := trodVars_none hV
  clear hA0
  obtain ⟨j0, i0, g0, p0, rfl, bj0, bi0, bg0, bp0⟩ := open_geo (hval 0 23 v0 rfl rfl) h0
  obtain ⟨x1, m1, rfl, ho1, hl1⟩ := open_met (hval 1 29 v1 rfl rfl) h1 (fun x hx => hlt x (by simp [hx]))
  obtain ⟨a2, rfl, rfl, rfl, wa2⟩ := open_int Try.underlying5 (hval 2 5 v2 rfl rfl) h2
  have bd2 := bounds_u8 wa2
  obtain ⟨a3, rfl, rfl, rfl, wa3⟩ := open_int Try.underlying5 (hval 3 5 v3 rfl rfl) h3
  have bd3 := bounds_u8 wa3
  refine (one_walk j0 i0 g0 p0 x1 m1 ho1 a2 a3 bd2 bd3 W hl1).mono fun e W' ⟨he, hb⟩ => ?_
  subst he
  exact ⟨_, rfl, law_post laid (by kernel_rfl) Try.underlying4 (by rw [Try.params7]; decide +kernel) rfl hW' ⟨rfl, rfl, rfl⟩ hb⟩

set_option maxRecDepth 100000 in
theorem one_lifted (os : Os) (started : os.Started) (H : Type) (enc : TypeId × Value → H) :
    ReturnsInHanded {} Try.checked os 7 .any (Rows.metaOneSpec.pre6 enc Try.prog Try.f7 Rows.metaOneRow.domain false) (Rows.metaOneSpec.post enc Try.prog Try.f7 false true false false) := by
  refine returnsInHanded_of_change (C := Try.checked) own started (by kernel_rfl) Try.func7
    (ChangeSpec.witness6 (enc := enc) (C := Try.checked) false ⟨#[], #[.agg #[.int .i64 0, .int .i64 0, .int .i64 0, .int .i64 0], .agg #[.slice none 0 0, .slice none 0 0, .slice none 0 0, .slice none 0 0], .int .u8 0, .int .u8 0], []⟩ 8 (by kernel_rfl) (by kernel_rfl) (by kernel_rfl) (by kernel_rfl)) ?_
  intro W base args ds gs before hval hW _ _
  exact one_contract H enc W base args ds gs before hval hW

/-- MetaOne is true for every input. -/
theorem one_holds : Rows.MetaOneSaid :=
  OpenClaim.holds_of_wide 7 Try.f7 rfl rfl rfl rfl rfl rfl rfl ⟨rfl, rfl, rfl, rfl, rfl⟩ rfl rfl rfl rfl rfl (by kernel_rfl) Try.func7 (by kernel_rfl)
    (of_decide_eq_true (by kernel_rfl)) (by unfold Func.isWrapper; first | (rw [if_pos (by decide +kernel)]; kernel_rfl) | (rw [if_neg (by decide +kernel)]; exact ⟨rfl, rfl⟩))
    (fun os started H enc _ => one_lifted os started H enc)
end Go.Proofs.Ytaflpigpeckhoaa
