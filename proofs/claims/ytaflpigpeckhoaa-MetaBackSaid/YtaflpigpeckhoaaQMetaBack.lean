/-
  What was laid is taken, and what is taken is laid so: for every parting, everything known (of lists of up to 100), every list (the first 50 lists, of up to 100 bytes each).
  No condition is set.
-/
import Derived.Test.YtaflpigpeckhoaaQMetaLays
import Derived.Test.YtaflpigpeckhoaaQMetaTakes
import Derived.Test.YtaflpigpeckhoaaQMetaNew
namespace Go.Proofs.Ytaflpigpeckhoaa
open Go.RowKit Go.ChangeShapes Go.WideShapes Go.ChangeAt Go.Deep Go.Joins Meta

def upd (t : Array Value) : List (Nat × Value) → Array Value
  | [] => t
  | (k, v) :: l => upd (t.setIfInBounds k v) l
theorem wp_cutA {P : Program} {c : Code} {Q : Exit → Act → World → Prop} {a : Act} {w : World} (R : Act → Act → World → Prop) (h : c.wp P (Exit.then (R a) (fun _ _ _ => False)) a w) (hq : ∀ a' u, R a a' u → Q .normal a' u) : c.wp P Q a w := by
  refine Go.wp_mono h fun e a' u hr => ?_
  cases e <;> first | exact hq _ _ hr | exact hr.elim
theorem not_right_z (G : Geo) : ¬ Meta.Right G .z := fun h => by
  have := h.rows.len
  cases this
set_option maxRecDepth 100000 in
set_option maxHeartbeats 6400000 in
theorem back_great (j i g p : Int) (m : Meta.Met) (_ho : Okm m) (M0 M1 M2 M3 : Option Addr) (r0 e0 r1 e1 r2 e2 r3 e3 : Nat) (l : List (List UInt8)) (A : Option Addr) (n c : Nat) (L : List Sc) (w : World) (_h0 : m.rows.length = r0) (_h1 : m.own.length = r1) (_h2 : m.used.length = r2) (_h3 : m.ino.length = r3) (hl : Lies w w.heap.size ⟨M0, e0, M1, e1, M2, e2, M3, e3⟩ m) (_hln : l.length = n) (_hc : n ≤ c) (hs : SecsAt w w.heap.size A L l) (hsm : smallB r0 r1 r2 r3 = false) :
    Calls Try.prog 5 #[.agg #[.int .i64 j, .int .i64 i, .int .i64 g, .int .i64 p], .agg #[.slice M0 r0 e0, .slice M1 r1 e1, .slice M2 r2 e2, .slice M3 r3 e3], .slice A n c] w fun e w' => e = .returned (.bool true) ∧ Below w.heap.size w w' := by
  have HS : Hid (∀ u : World, Calls Try.prog 10 #[.agg #[.slice M0 r0 e0, .slice M1 r1 e1, .slice M2 r2 e2, .slice M3 r3 e3]] u fun e w' => e = .returned (.bool false) ∧ Below u.heap.size u w') := Lib.hid (fun u => by
    have := small_in M0 M1 M2 M3 r0 e0 r1 e1 r2 e2 r3 e3 u
    rwa [hsm] at this)
  obtain ⟨W, hW⟩ : ∃ W, W = (w.alloc (.cells #[.int .i64 j, .int .i64 i, .int .i64 g, .int .i64 p] 23)).alloc (.cells #[.slice M0 r0 e0, .slice M1 r1 e1, .slice M2 r2 e2, .slice M3 r3 e3] 29) := ⟨_, rfl⟩
  have hbW : Below w.heap.size w W := by rw [hW]; exact (Below.refl _ _).alloc (Nat.le_refl _) _ |>.alloc (by simp) _
  have hG : Bk W w.heap.size 23 [.int .i64 j, .int .i64 i, .int .i64 g, .int .i64 p] := by rw [hW]; exact (geo_box w j i g p).below (al_below _ _) (by simp)
  have hM : Bk W (w.heap.size + 1) 29 [.slice M0 r0 e0, .slice M1 r1 e1, .slice M2 r2 e2, .slice M3 r3 e3] := by
    rw [hW]
    have := Bk.new (w.alloc (.cells #[.int .i64 j, .int .i64 i, .int .i64 g, .int .i64 p] 23)) 29 [.slice M0 r0 e0, .slice M1 r1 e1, .slice M2 r2 e2, .slice M3 r3 e3]
    simpa using this
  have HG := Lib.hid hG
  have HM := Lib.hid hM
  have HB := Lib.hid hbW
  have HW := Lib.hid hW
  have HL := Lib.hid (hl.later hbW)
  have HTL := Lib.hid (hs.later hbW)
  obtain ⟨g0, g1, g2, g3⟩ := four_cells hG
  obtain ⟨q0, q1, q2, q3⟩ := four_cells hM
  have hltg := hG.lt
  have hltm := hM.lt
  clear hbW hG hM hW hl hs
  clear hsm
  go_enter Try.func5, Try.ntmps5
  go_upto_region 1 with fail
  rw [← HW.out]
  go_wp2_with (first
    | (go_at_call 9; (with_reducible refine (shown_any _).mono ?_); rintro e w1 ⟨he, hb⟩; obtain rfl := he; replace HB := Lib.hid (HB.out.trans (hb.mono HB.out.size)); replace HG := Lib.hid (HG.out.below hb HG.out.lt); replace HM := Lib.hid (HM.out.below hb HM.out.lt); replace HL := Lib.hid (HL.out.later hb); replace HTL := Lib.hid (HTL.out.later hb); clear g0 g1 g2 g3 q0 q1 q2 q3 hltg hltm hb; obtain ⟨g0, g1, g2, g3⟩ := four_cells HG.out; have hltg := HG.out.lt; obtain ⟨q0, q1, q2, q3⟩ := four_cells HM.out; have hltm := HM.out.lt)
    | (go_at_call 10; (with_reducible refine (HS.out _).mono ?_); rintro e w2 ⟨he, hb⟩; obtain rfl := he; replace HB := Lib.hid (HB.out.trans (hb.mono HB.out.size)); replace HG := Lib.hid (HG.out.below hb HG.out.lt); replace HM := Lib.hid (HM.out.below hb HM.out.lt); replace HL := Lib.hid (HL.out.later hb); replace HTL := Lib.hid (HTL.out.later hb); clear g0 g1 g2 g3 q0 q1 q2 q3 hltg hltm hb; obtain ⟨g0, g1, g2, g3⟩ := four_cells HG.out; have hltg := HG.out.lt; obtain ⟨q0, q1, q2, q3⟩ := four_cells HM.out; have hltm := HM.out.lt))
  go_ret
  exact ⟨rfl, HB.out⟩
set_option maxRecDepth 100000 in
set_option maxHeartbeats 6400000 in
theorem back_yy (j i g p : Int) (m : Meta.Met) (ho : Okm m) (M0 M1 M2 M3 : Option Addr) (r0 e0 r1 e1 r2 e2 r3 e3 : Nat) (l : List (List UInt8)) (A : Option Addr) (n c : Nat) (L : List Sc) (w : World) (h0 : m.rows.length = r0) (h1 : m.own.length = r1) (h2 : m.used.length = r2) (h3 : m.ino.length = r3) (hl : Lies w w.heap.size ⟨M0, e0, M1, e1, M2, e2, M3, e3⟩ m) (hln : l.length = n) (hc : n ≤ c) (hs : SecsAt w w.heap.size A L l) (hsm : smallB r0 r1 r2 r3 = true) (hR : Meta.Right ⟨j, i, g, p⟩ m) (mc : Meta.Met) (hrc : Meta.Right ⟨j, i, g, p⟩ mc) (hoc : Okm mc) (hsc : secs mc = l.take (fewN 50 l)) (hT : takM ⟨j, i, g, p⟩ (l.take (fewN 50 l)) = (mc, 0)) :
    Calls Try.prog 5 #[.agg #[.int .i64 j, .int .i64 i, .int .i64 g, .int .i64 p], .agg #[.slice M0 r0 e0, .slice M1 r1 e1, .slice M2 r2 e2, .slice M3 r3 e3], .slice A n c] w fun e w' => e = .returned (.bool true) ∧ Below w.heap.size w w' := by
  obtain ⟨s0, s1, s2, s3⟩ := small_yes hsm
  have HS : Hid (∀ u : World, Calls Try.prog 10 #[.agg #[.slice M0 r0 e0, .slice M1 r1 e1, .slice M2 r2 e2, .slice M3 r3 e3]] u fun e w' => e = .returned (.bool true) ∧ Below u.heap.size u w') := Lib.hid (fun u => by
    have := small_in M0 M1 M2 M3 r0 e0 r1 e1 r2 e2 r3 e3 u
    rwa [hsm] at this)
  have hfl := fewN_le 50 l
  obtain ⟨k, hk⟩ : ∃ k, fewN 50 l = k := ⟨_, rfl⟩
  rw [hk] at hfl hT
  have hkl : (l.take k).length = k := by rw [List.length_take]; omega
  obtain ⟨W, hW⟩ : ∃ W, W = (w.alloc (.cells #[.int .i64 j, .int .i64 i, .int .i64 g, .int .i64 p] 23)).alloc (.cells #[.slice M0 r0 e0, .slice M1 r1 e1, .slice M2 r2 e2, .slice M3 r3 e3] 29) := ⟨_, rfl⟩
  have hbW : Below w.heap.size w W := by rw [hW]; exact (Below.refl _ _).alloc (Nat.le_refl _) _ |>.alloc (by simp) _
  have hG : Bk W w.heap.size 23 [.int .i64 j, .int .i64 i, .int .i64 g, .int .i64 p] := by rw [hW]; exact (geo_box w j i g p).below (al_below _ _) (by simp)
  have hM : Bk W (w.heap.size + 1) 29 [.slice M0 r0 e0, .slice M1 r1 e1, .slice M2 r2 e2, .slice M3 r3 e3] := by
    rw [hW]
    have := Bk.new (w.alloc (.cells #[.int .i64 j, .int .i64 i, .int .i64 g, .int .i64 p] 23)) 29 [.slice M0 r0 e0, .slice M1 r1 e1, .slice M2 r2 e2, .slice M3 r3 e3]
    simpa using this
  have HG := Lib.hid hG
  have HM := Lib.hid hM
  have HB := Lib.hid hbW
  have HW := Lib.hid hW
  have HL := Lib.hid (hl.later hbW)
  have HTL := Lib.hid (hs.later hbW)
  obtain ⟨g0, g1, g2, g3⟩ := four_cells hG
  obtain ⟨q0, q1, q2, q3⟩ := four_cells hM
  have hltg := hG.lt
  have hltm := hM.lt
  clear hbW hG hM hW hl hs
  have hq5 := length_secs hR
  have hq6 := hR.geo.i2
  simp only at hq5 hq6
  obtain ⟨q, hq⟩ : ∃ q, (secs m).length = q := ⟨_, rfl⟩
  have hq40 : q ≤ 40 := by omega
  have HQ := Lib.hid hq
  have HLAY : Hid (∀ u : World, Lies u u.heap.size ⟨M0, e0, M1, e1, M2, e2, M3, e3⟩ m → Calls Try.prog 13 #[.agg #[.int .i64 j, .int .i64 i, .int .i64 g, .int .i64 p], .agg #[.slice M0 r0 e0, .slice M1 r1 e1, .slice M2 r2 e2, .slice M3 r3 e3]] u fun e w' => HandsL u (secs m, 0) e w') := Lib.hid (fun u hl => by
    have := lay_in j i g p m ho M0 M1 M2 M3 r0 e0 r1 e1 r2 e2 r3 e3 u h0 h1 h2 h3 hl (by omega)
    rwa [lay_yes hR] at this)
  have HTAKE1 : Hid (∀ (u : World) (A : Option Addr) (c : Nat) (L : List Sc), SecsAt u u.heap.size A L (secs m) → q ≤ c → Calls Try.prog 19 #[.agg #[.int .i64 j, .int .i64 i, .int .i64 g, .int .i64 p], .slice A q c] u fun e w' => HandsM u (m, 0) e w') := Lib.hid (fun u A c L hs hc => by
    have := ptake_any ⟨j, i, g, p⟩ (secs m) A q c L u hq hs (by omega) hc
    rwa [tak_secs hR ho] at this)
  have HRIGHT : Hid (∀ u : World, Lies u u.heap.size ⟨M0, e0, M1, e1, M2, e2, M3, e3⟩ m → Calls Try.prog 16 #[.agg #[.int .i64 j, .int .i64 i, .int .i64 g, .int .i64 p], .agg #[.slice M0 r0 e0, .slice M1 r1 e1, .slice M2 r2 e2, .slice M3 r3 e3]] u fun e w' => e = .returned (.bool true) ∧ Below u.heap.size u w') := Lib.hid (fun u hl => by
    have := right_in j i g p m ho M0 M1 M2 M3 r0 e0 r1 e1 r2 e2 r3 e3 u h0 h1 h2 h3 hl (by omega)
    rwa [rightB_yes hR] at this)
  have HSAME1 : Hid (∀ (u : World) (B0 B1 B2 B3 : Option Addr) (d0 d1 d2 d3 : Nat), Lies u u.heap.size ⟨B0, d0, B1, d1, B2, d2, B3, d3⟩ m → Lies u u.heap.size ⟨M0, e0, M1, e1, M2, e2, M3, e3⟩ m → Calls Try.prog 15 #[.agg #[.slice B0 r0 d0, .slice B1 r1 d1, .slice B2 r2 d2, .slice B3 r3 d3], .agg #[.slice M0 r0 e0, .slice M1 r1 e1, .slice M2 r2 e2, .slice M3 r3 e3]] u fun e w' => e = .returned (.bool true) ∧ Below u.heap.size u w') := Lib.hid (fun u B0 B1 B2 B3 d0 d1 d2 d3 hl hk =>
    rsame_in m ho B0 B1 B2 B3 M0 M1 M2 M3 r0 d0 r1 d1 r2 d2 r3 d3 e0 e1 e2 e3 u h0 h1 h2 h3 hl hk (by omega))
  have HP0 := Lib.hid h0
  have HP1 := Lib.hid h1
  have HP2 := Lib.hid h2
  have HP3 := Lib.hid h3
  have HFEW : Hid (∀ u : World, SecsAt u u.heap.size A L l → Calls Try.prog 20 #[.slice A n c] u fun e w' => e = .returned (.slice A k c) ∧ Below u.heap.size u w') := Lib.hid (fun u hu => by
    have := few_any l A n c L u hln hu hc
    rwa [hk] at this)
  have HTAKE2 : Hid (∀ u : World, SecsAt u u.heap.size A L l → Calls Try.prog 19 #[.agg #[.int .i64 j, .int .i64 i, .int .i64 g, .int .i64 p], .slice A k c] u fun e w' => HandsM u (mc, 0) e w') := Lib.hid (fun u hu => by
    have := ptake_any ⟨j, i, g, p⟩ (l.take k) A k c (L.take k) u hkl (hu.few k) (by omega) (by omega)
    rwa [hT] at this)
  obtain ⟨n0, hn0⟩ : ∃ q, mc.rows.length = q := ⟨_, rfl⟩
  obtain ⟨n1, hn1⟩ : ∃ q, mc.own.length = q := ⟨_, rfl⟩
  obtain ⟨n2, hn2⟩ : ∃ q, mc.used.length = q := ⟨_, rfl⟩
  obtain ⟨n3, hn3⟩ : ∃ q, mc.ino.length = q := ⟨_, rfl⟩
  have HN0 := Lib.hid hn0
  have HN1 := Lib.hid hn1
  have HN2 := Lib.hid hn2
  have HN3 := Lib.hid hn3
  have HLAY2 : Hid (∀ (u : World) (A0 A1 A2 A3 : Option Addr) (k0 k1 k2 k3 : Nat), Lies u u.heap.size ⟨A0, k0, A1, k1, A2, k2, A3, k3⟩ mc → Calls Try.prog 13 #[.agg #[.int .i64 j, .int .i64 i, .int .i64 g, .int .i64 p], .agg #[.slice A0 n0 k0, .slice A1 n1 k1, .slice A2 n2 k2, .slice A3 n3 k3]] u fun e w' => HandsL u (l.take k, 0) e w') := Lib.hid (fun u A0 A1 A2 A3 k0 k1 k2 k3 hl => by
    have := lay_in j i g p mc hoc A0 A1 A2 A3 n0 k0 n1 k1 n2 k2 n3 k3 u hn0 hn1 hn2 hn3 hl (by have := hrc.own64; have := hrc.ulen; have := hrc.ino64; omega)
    rwa [lay_yes hrc, hsc, hk] at this)
  have HKL := Lib.hid hkl
  have HSEC : Hid (∀ (u : World) (A1 : Option Addr) (d : Nat) (L1 : List Sc), SecsAt u u.heap.size A1 L1 (l.take k) → SecsAt u u.heap.size A L l → Calls Try.prog 18 #[.slice A1 k d, .slice A k c] u fun e w' => e = .returned (.bool true) ∧ Below u.heap.size u w') := Lib.hid (fun u A1 d L1 h1 h2 => by
    have := rsec_any (l.take k) (l.take k) A1 A k k d c L1 (L.take k) u hkl hkl h1 (h2.few k) (by omega)
    rwa [show (l.take k == l.take k) = true by simp] at this)
  clear hn0 hn1 hn2 hn3 hrc hoc hsc
  clear hsm ho h0 h1 h2 h3 hln hc hR hT hfl hk hkl s0 s1 s2 s3 hq5 hq6 hq
  go_enter Try.func5, Try.ntmps5
  go_upto_region 1 with fail
  rw [← HW.out]
  go_upto_region 8 with (first
    | (go_at_call 9; (with_reducible refine (shown_any _).mono ?_); rintro e w1 ⟨he, hb⟩; obtain rfl := he; replace HB := Lib.hid (HB.out.trans (hb.mono HB.out.size)); replace HG := Lib.hid (HG.out.below hb HG.out.lt); replace HM := Lib.hid (HM.out.below hb HM.out.lt); replace HL := Lib.hid (HL.out.later hb); replace HTL := Lib.hid (HTL.out.later hb); clear g0 g1 g2 g3 q0 q1 q2 q3 hltg hltm hb; obtain ⟨g0, g1, g2, g3⟩ := four_cells HG.out; have hltg := HG.out.lt; obtain ⟨q0, q1, q2, q3⟩ := four_cells HM.out; have hltm := HM.out.lt)
    | (go_at_call 10; (with_reducible refine (HS.out _).mono ?_); rintro e w2 ⟨he, hb⟩; obtain rfl := he; replace HB := Lib.hid (HB.out.trans (hb.mono HB.out.size)); replace HG := Lib.hid (HG.out.below hb HG.out.lt); replace HM := Lib.hid (HM.out.below hb HM.out.lt); replace HL := Lib.hid (HL.out.later hb); replace HTL := Lib.hid (HTL.out.later hb); clear g0 g1 g2 g3 q0 q1 q2 q3 hltg hltm hb; obtain ⟨g0, g1, g2, g3⟩ := four_cells HG.out; have hltg := HG.out.lt; obtain ⟨q0, q1, q2, q3⟩ := four_cells HM.out; have hltm := HM.out.lt)
    | (go_at_call 13; (with_reducible refine (HLAY.out _ HL.out).mono ?_); rintro e w3 hh; obtain ⟨C1, c1, L1, he, -, hcap, -, hsa, hb⟩ := hh.got; rw [HQ.out] at he hcap; obtain rfl := he; replace HB := Lib.hid (HB.out.trans (hb.mono HB.out.size)); replace HG := Lib.hid (HG.out.below hb HG.out.lt); replace HM := Lib.hid (HM.out.below hb HM.out.lt); replace HL := Lib.hid (HL.out.later hb); replace HTL := Lib.hid (HTL.out.later hb); have HT1 := Lib.hid hsa; have HCAP := Lib.hid hcap; clear hsa hcap; clear g0 g1 g2 g3 q0 q1 q2 q3 hltg hltm hb; obtain ⟨g0, g1, g2, g3⟩ := four_cells HG.out; have hltg := HG.out.lt; obtain ⟨q0, q1, q2, q3⟩ := four_cells HM.out; have hltm := HM.out.lt)
    | (go_at_call 19; (with_reducible refine (HTAKE1.out _ _ _ _ HT1.out HCAP.out).mono ?_); rintro e w4 hh; obtain ⟨B0, d0, B1, d1, B2, d2, B3, d3, he, ho, hb⟩ := hh.got HP0.out HP1.out HP2.out HP3.out; obtain rfl := he; replace HB := Lib.hid (HB.out.trans (hb.mono HB.out.size)); replace HG := Lib.hid (HG.out.below hb HG.out.lt); replace HM := Lib.hid (HM.out.below hb HM.out.lt); replace HL := Lib.hid (HL.out.later hb); replace HTL := Lib.hid (HTL.out.later hb); replace HT1 := Lib.hid (HT1.out.later hb); have HO1 := Lib.hid ho; clear ho; clear g0 g1 g2 g3 q0 q1 q2 q3 hltg hltm hb; obtain ⟨g0, g1, g2, g3⟩ := four_cells HG.out; have hltg := HG.out.lt; obtain ⟨q0, q1, q2, q3⟩ := four_cells HM.out; have hltm := HM.out.lt)
    | (go_at_call 16; have hal := al_below w4 (.cells #[.slice B0 r0 d0, .slice B1 r1 d1, .slice B2 r2 d2, .slice B3 r3 d3] 29); replace HB := Lib.hid (HB.out.trans (hal.mono HB.out.size)); replace HG := Lib.hid (HG.out.below hal HG.out.lt); replace HM := Lib.hid (HM.out.below hal HM.out.lt); replace HL := Lib.hid (HL.out.later hal); replace HTL := Lib.hid (HTL.out.later hal); replace HT1 := Lib.hid (HT1.out.later hal); replace HO1 := Lib.hid (HO1.out.below hal); have HV1 := Lib.hid (Bk.new w4 29 [.slice B0 r0 d0, .slice B1 r1 d1, .slice B2 r2 d2, .slice B3 r3 d3]); clear hal; (with_reducible refine (HRIGHT.out _ HL.out).mono ?_); rintro e w5 ⟨he, hb⟩; obtain rfl := he; replace HB := Lib.hid (HB.out.trans (hb.mono HB.out.size)); replace HG := Lib.hid (HG.out.below hb HG.out.lt); replace HM := Lib.hid (HM.out.below hb HM.out.lt); replace HL := Lib.hid (HL.out.later hb); replace HTL := Lib.hid (HTL.out.later hb); replace HT1 := Lib.hid (HT1.out.later hb); replace HO1 := Lib.hid (HO1.out.below hb); replace HV1 := Lib.hid (HV1.out.below hb HV1.out.lt); clear g0 g1 g2 g3 q0 q1 q2 q3 hltg hltm hb; obtain ⟨g0, g1, g2, g3⟩ := four_cells HG.out; have hltg := HG.out.lt; obtain ⟨q0, q1, q2, q3⟩ := four_cells HM.out; have hltm := HM.out.lt; obtain ⟨y0, y1, y2, y3⟩ := four_cells HV1.out; have hlty := HV1.out.lt)
    | (go_at_call 15; (with_reducible refine (HSAME1.out _ _ _ _ _ _ _ _ _ HO1.out.lies HL.out).mono ?_); rintro e w6 ⟨he, hb⟩; obtain rfl := he; replace HB := Lib.hid (HB.out.trans (hb.mono HB.out.size)); replace HG := Lib.hid (HG.out.below hb HG.out.lt); replace HM := Lib.hid (HM.out.below hb HM.out.lt); replace HL := Lib.hid (HL.out.later hb); replace HTL := Lib.hid (HTL.out.later hb); replace HT1 := Lib.hid (HT1.out.later hb); replace HO1 := Lib.hid (HO1.out.below hb); replace HV1 := Lib.hid (HV1.out.below hb HV1.out.lt); clear g0 g1 g2 g3 q0 q1 q2 q3 y0 y1 y2 y3 hltg hltm hlty hb; obtain ⟨g0, g1, g2, g3⟩ := four_cells HG.out; have hltg := HG.out.lt; obtain ⟨q0, q1, q2, q3⟩ := four_cells HM.out; have hltm := HM.out.lt; obtain ⟨y0, y1, y2, y3⟩ := four_cells HV1.out; have hlty := HV1.out.lt))
  have HF8 := Lib.hid (fun (u : World) (hu : Below w6.heap.size w6 u) => HFEW.out u (HTL.out.later hu))
  have HT8 := Lib.hid (fun (u : World) (hu : Below w6.heap.size w6 u) => HTAKE2.out u (HTL.out.later hu))
  refine wp_cutA (fun a0 a u => ∃ M A0 k0 A1 k1 A2 k2 A3 k3, a = { tmps := upd a0.tmps [(63, .agg #[.int .i64 j, .int .i64 i, .int .i64 g, .int .i64 p]), (64, .slice A n c), (65, .slice A k c), (66, .tuple #[.agg #[.slice A0 n0 k0, .slice A1 n1 k1, .slice A2 n2 k2, .slice A3 n3 k3], .int .i64 0]), (62, .tuple #[.agg #[.slice A0 n0 k0, .slice A1 n1 k1, .slice A2 n2 k2, .slice A3 n3 k3], .int .i64 0]), (67, .agg #[.slice A0 n0 k0, .slice A1 n1 k1, .slice A2 n2 k2, .slice A3 n3 k3]), (68, .int .i64 0), (12, .pointer (some ⟨M, 0, none⟩)), (13, .int .i64 0)], defers := a0.defers } ∧ Below w6.heap.size w6 u ∧ Bk u M 29 [.slice A0 n0 k0, .slice A1 n1 k1, .slice A2 n2 k2, .slice A3 n3 k3] ∧ OwnM u w6.heap.size ⟨A0, k0, A1, k1, A2, k2, A3, k3⟩ mc ∧ w6.heap.size ≤ M) ?_ ?_
  · clear g0 g1 g2 g3 q0 q1 q2 q3 hltg hltm y0 y1 y2 y3 hlty HB HL HTL HT1 HO1 HM HV1
    have hS0 : Below w6.heap.size w6 w6.drew := (Below.refl _ _).drew
    refine wp_region_held_drew (S := fun u => Below w6.heap.size w6 u) (by kernel_rfl) hS0 (fun hHeld => ?_)
    refine wpAnyH_take (i := 0) (oi := _) (v := ?_) (by simp only [List.getElem?_toArray, List.getElem?_cons_zero]; rfl) (by kernel_rfl) (by kernel_rfl) (by kernel_rfl) (by exact fun _ _ _ h => h) (Or.inl ⟨by rfl, ?hyx00⟩) (by exact hHeld) ?rex00
    case hyx00 => (intro u hu; obtain ⟨g0, g1, g2, g3⟩ := four_cells (HG.out.below hu HG.out.lt); clear hu; go_simp <;> with_reducible rfl)
    try simp only [Act.put, List.setIfInBounds_toArray, List.set_cons_zero, List.set_cons_succ]
    refine wpAnyH_take (i := 1) (oi := _) (v := ?_) (by simp only [List.getElem?_toArray, List.getElem?_cons_succ, List.getElem?_cons_zero]; rfl) (by kernel_rfl) (by kernel_rfl) (by kernel_rfl) (by exact fun _ _ _ h => h) (Or.inl ⟨by rfl, ?hyx01⟩) (by exact hHeld) ?rex01
    case hyx01 => (intro u hu; obtain ⟨g0, g1, g2, g3⟩ := four_cells (HG.out.below hu HG.out.lt); clear hu; go_simp <;> with_reducible rfl)
    try simp only [Act.put, List.setIfInBounds_toArray, List.set_cons_zero, List.set_cons_succ]
    clear hS0
    generalize hu0 : w6.drew = u0 at *
    clear hu0
    refine wpAnyH_ready (rs := [2, 7]) (by kernel_rfl) (by simp) ?_
    refine AllReadyH.cons (o := _) (by simp only [List.getElem?_toArray, List.getElem?_cons_succ, List.getElem?_cons_zero]; rfl) (fun K hK => ?_) (AllReadyH.cons (o := _) (by simp only [List.getElem?_toArray, List.getElem?_cons_succ, List.getElem?_cons_zero]; rfl) (fun K hK => ?_) (AllReadyH.nil))
    · go_simp
      (with_reducible refine (HF8.out _ hHeld).mono ?_)
      rintro e v2 ⟨he, hb⟩; obtain rfl := he
      have hS : Below w6.heap.size w6 v2 := hHeld.trans (hb.mono hHeld.size)
      clear hb
      go_simp
      refine hK.out _ _ hS (fun hHeld2 => ?_)
      clear hK K hHeld hS
      have hHeld := hHeld2
      clear hHeld2
      try simp only [Act.put, List.setIfInBounds_toArray, List.set_cons_zero, List.set_cons_succ]
      refine wpAnyH_ready (rs := [3, 7]) (by kernel_rfl) (by simp) ?_
      refine AllReadyH.cons (o := _) (by simp only [List.getElem?_toArray, List.getElem?_cons_succ, List.getElem?_cons_zero]; rfl) (fun K hK => ?_) (AllReadyH.cons (o := _) (by simp only [List.getElem?_toArray, List.getElem?_cons_succ, List.getElem?_cons_zero]; rfl) (fun K hK => ?_) (AllReadyH.nil))
      · go_simp
        (with_reducible refine (HT8.out _ hHeld).mono ?_)
        rintro e v3 hh
        obtain ⟨A0, k0, A1, k1, A2, k2, A3, k3, he, ho, hb⟩ := hh.got HN0.out HN1.out HN2.out HN3.out
        obtain rfl := he
        have KO := Lib.hid (ho.base hHeld.size)
        clear ho hh
        have hS : Below w6.heap.size w6 v3 := hHeld.trans (hb.mono hHeld.size)
        clear hb
        go_simp
        refine hK.out _ _ hS (fun hHeld2 => ?_)
        clear hK K hHeld hS
        have hHeld := hHeld2
        clear hHeld2
        try simp only [Act.put, List.setIfInBounds_toArray, List.set_cons_zero, List.set_cons_succ]
        refine wpAnyH_take (i := 4) (oi := _) (v := ?_) (by simp only [List.getElem?_toArray, List.getElem?_cons_succ, List.getElem?_cons_zero]; rfl) (by kernel_rfl) (by kernel_rfl) (by kernel_rfl) (by exact fun _ _ _ h => h) (Or.inl ⟨by rfl, ?hyx34⟩) (by exact hHeld) ?rex34
        case hyx34 => (intro u hu; clear hu; go_simp <;> with_reducible rfl)
        try simp only [Act.put, List.setIfInBounds_toArray, List.set_cons_zero, List.set_cons_succ]
        refine wpAnyH_take (i := 5) (oi := _) (v := ?_) (by simp only [List.getElem?_toArray, List.getElem?_cons_succ, List.getElem?_cons_zero]; rfl) (by kernel_rfl) (by kernel_rfl) (by kernel_rfl) (by exact fun _ _ _ h => h) (Or.inl ⟨by rfl, ?hyx35⟩) (by exact hHeld) ?rex35
        case hyx35 => (intro u hu; clear hu; go_simp <;> with_reducible rfl)
        try simp only [Act.put, List.setIfInBounds_toArray, List.set_cons_zero, List.set_cons_succ]
        refine wpAnyH_take (i := 6) (oi := _) (v := ?_) (by simp only [List.getElem?_toArray, List.getElem?_cons_succ, List.getElem?_cons_zero]; rfl) (by kernel_rfl) (by kernel_rfl) (by kernel_rfl) (by exact fun _ _ _ h => h) (Or.inl ⟨by rfl, ?hyx36⟩) (by exact hHeld) ?rex36
        case hyx36 => (intro u hu; clear hu; go_simp <;> with_reducible rfl)
        try simp only [Act.put, List.setIfInBounds_toArray, List.set_cons_zero, List.set_cons_succ]
        refine wpAnyH_ready (rs := [7]) (by kernel_rfl) (by simp) ?_
        refine AllReadyH.cons (o := _) (by simp only [List.getElem?_toArray, List.getElem?_cons_succ, List.getElem?_cons_zero]; rfl) (fun K hK => ?_) (AllReadyH.nil)
        go_simp
        obtain ⟨v5, hw⟩ : ∃ u, u = v3.alloc (.cells #[.slice none 0 0, .slice none 0 0, .slice none 0 0, .slice none 0 0] 29) := ⟨_, rfl⟩
        rw [← hw]
        have hb : Below v3.heap.size v3 v5 := by rw [hw]; exact al_below _ _
        replace KO := Lib.hid (KO.out.below hb)
        have KM : Hid (Bk v5 v3.heap.size 29 [.slice none 0 0, .slice none 0 0, .slice none 0 0, .slice none 0 0]) := Lib.hid (by rw [hw]; exact Bk.new _ _ _)
        have LM : Hid (w6.heap.size ≤ v3.heap.size) := Lib.hid hHeld.size
        clear hw
        have hS : Below w6.heap.size w6 v5 := hHeld.trans (hb.mono hHeld.size)
        clear hb
        refine hK.out _ _ hS (fun hHeld2 => ?_)
        clear hK K hHeld hS
        have hHeld := hHeld2
        clear hHeld2
        try simp only [Act.put, List.setIfInBounds_toArray, List.set_cons_zero, List.set_cons_succ]
        obtain ⟨r0, r1, r2, r3⟩ := four_cells KM.out
        obtain ⟨f0, f1, f2, f3⟩ := four_frozen KM.out
        have hlz := KM.out.lt
        refine wpAnyH_ready (rs := [8]) (by kernel_rfl) (by simp) ?_
        refine AllReadyH.cons (o := _) (by simp only [List.getElem?_toArray, List.getElem?_cons_succ, List.getElem?_cons_zero]; rfl) (fun K hK => ?_) AllReadyH.nil
        go_simp
        change K _ (put4 v5 v3.heap.size (.slice A0 n0 k0) (.slice A1 n1 k1) (.slice A2 n2 k2) (.slice A3 n3 k3))
        have hS : Below w6.heap.size w6 (put4 v5 v3.heap.size (.slice A0 n0 k0) (.slice A1 n1 k1) (.slice A2 n2 k2) (.slice A3 n3 k3)) := put4_below hHeld LM.out _ _ _ _
        have HVV := Lib.hid (put4_bk (a0 := .slice A0 n0 k0) (a1 := .slice A1 n1 k1) (a2 := .slice A2 n2 k2) (a3 := .slice A3 n3 k3) KM.out)
        have HOO := Lib.hid (ownM_set (((KM.out.set 0 (.slice A0 n0 k0)).set 1 (.slice A1 n1 k1)).set 2 (.slice A2 n2 k2)) (ownM_set ((KM.out.set 0 (.slice A0 n0 k0)).set 1 (.slice A1 n1 k1)) (ownM_set (KM.out.set 0 (.slice A0 n0 k0)) (ownM_set KM.out KO.out 0 (.slice A0 n0 k0)) 1 (.slice A1 n1 k1)) 2 (.slice A2 n2 k2)) 3 (.slice A3 n3 k3))
        refine hK.out _ _ hS (fun hHeld2 => ?_)
        clear hK K hS hHeld r0 r1 r2 r3 f0 f1 f2 f3 hlz
        have hHeld := hHeld2
        clear hHeld2
        try simp only [Act.put, List.setIfInBounds_toArray, List.set_cons_zero, List.set_cons_succ]
        refine wpAnyH_take (i := 9) (oi := _) (v := ?_) (by simp only [List.getElem?_toArray, List.getElem?_cons_succ, List.getElem?_cons_zero]; rfl) (by kernel_rfl) (by kernel_rfl) (by kernel_rfl) (by exact fun _ _ _ h => h) (Or.inl ⟨by rfl, ?hyx69⟩) (by exact hHeld) ?rex69
        case hyx69 => (intro u hu; clear hu; go_simp <;> with_reducible rfl)
        try simp only [Act.put, List.setIfInBounds_toArray, List.set_cons_zero, List.set_cons_succ]
        refine wpAnyH_done (by kernel_rfl) ?_ _
        exact ⟨v3.heap.size, A0, k0, A1, k1, A2, k2, A3, k3, by simp only [upd, List.setIfInBounds_toArray, List.set_cons_zero, List.set_cons_succ], hHeld, HVV.out, HOO.out, LM.out⟩
      · go_simp
        obtain ⟨v8, hw⟩ : ∃ u, u = v2.alloc (.cells #[.slice none 0 0, .slice none 0 0, .slice none 0 0, .slice none 0 0] 29) := ⟨_, rfl⟩
        rw [← hw]
        have hb : Below v2.heap.size v2 v8 := by rw [hw]; exact al_below _ _
        have KM : Hid (Bk v8 v2.heap.size 29 [.slice none 0 0, .slice none 0 0, .slice none 0 0, .slice none 0 0]) := Lib.hid (by rw [hw]; exact Bk.new _ _ _)
        have LM : Hid (w6.heap.size ≤ v2.heap.size) := Lib.hid hHeld.size
        clear hw
        have hS : Below w6.heap.size w6 v8 := hHeld.trans (hb.mono hHeld.size)
        clear hb
        refine hK.out _ _ hS (fun hHeld2 => ?_)
        clear hK K hHeld hS
        have hHeld := hHeld2
        clear hHeld2
        try simp only [Act.put, List.setIfInBounds_toArray, List.set_cons_zero, List.set_cons_succ]
        refine wpAnyH_ready (rs := [3]) (by kernel_rfl) (by simp) ?_
        refine AllReadyH.cons (o := _) (by simp only [List.getElem?_toArray, List.getElem?_cons_succ, List.getElem?_cons_zero]; rfl) (fun K hK => ?_) (AllReadyH.nil)
        go_simp
        (with_reducible refine (HT8.out _ hHeld).mono ?_)
        rintro e v9 hh
        obtain ⟨A0, k0, A1, k1, A2, k2, A3, k3, he, ho, hb⟩ := hh.got HN0.out HN1.out HN2.out HN3.out
        obtain rfl := he
        replace KM := Lib.hid (KM.out.below hb KM.out.lt)
        have KO := Lib.hid (ho.base hHeld.size)
        clear ho hh
        have hS : Below w6.heap.size w6 v9 := hHeld.trans (hb.mono hHeld.size)
        clear hb
        go_simp
        refine hK.out _ _ hS (fun hHeld2 => ?_)
        clear hK K hHeld hS
        have hHeld := hHeld2
        clear hHeld2
        try simp only [Act.put, List.setIfInBounds_toArray, List.set_cons_zero, List.set_cons_succ]
        refine wpAnyH_take (i := 4) (oi := _) (v := ?_) (by simp only [List.getElem?_toArray, List.getElem?_cons_succ, List.getElem?_cons_zero]; rfl) (by kernel_rfl) (by kernel_rfl) (by kernel_rfl) (by exact fun _ _ _ h => h) (Or.inl ⟨by rfl, ?hyx94⟩) (by exact hHeld) ?rex94
        case hyx94 => (intro u hu; clear hu; go_simp <;> with_reducible rfl)
        try simp only [Act.put, List.setIfInBounds_toArray, List.set_cons_zero, List.set_cons_succ]
        refine wpAnyH_take (i := 5) (oi := _) (v := ?_) (by simp only [List.getElem?_toArray, List.getElem?_cons_succ, List.getElem?_cons_zero]; rfl) (by kernel_rfl) (by kernel_rfl) (by kernel_rfl) (by exact fun _ _ _ h => h) (Or.inl ⟨by rfl, ?hyx95⟩) (by exact hHeld) ?rex95
        case hyx95 => (intro u hu; clear hu; go_simp <;> with_reducible rfl)
        try simp only [Act.put, List.setIfInBounds_toArray, List.set_cons_zero, List.set_cons_succ]
        refine wpAnyH_take (i := 6) (oi := _) (v := ?_) (by simp only [List.getElem?_toArray, List.getElem?_cons_succ, List.getElem?_cons_zero]; rfl) (by kernel_rfl) (by kernel_rfl) (by kernel_rfl) (by exact fun _ _ _ h => h) (Or.inl ⟨by rfl, ?hyx96⟩) (by exact hHeld) ?rex96
        case hyx96 => (intro u hu; clear hu; go_simp <;> with_reducible rfl)
        try simp only [Act.put, List.setIfInBounds_toArray, List.set_cons_zero, List.set_cons_succ]
        obtain ⟨r0, r1, r2, r3⟩ := four_cells KM.out
        obtain ⟨f0, f1, f2, f3⟩ := four_frozen KM.out
        have hlz := KM.out.lt
        refine wpAnyH_ready (rs := [8]) (by kernel_rfl) (by simp) ?_
        refine AllReadyH.cons (o := _) (by simp only [List.getElem?_toArray, List.getElem?_cons_succ, List.getElem?_cons_zero]; rfl) (fun K hK => ?_) AllReadyH.nil
        go_simp
        change K _ (put4 v9 v2.heap.size (.slice A0 n0 k0) (.slice A1 n1 k1) (.slice A2 n2 k2) (.slice A3 n3 k3))
        have hS : Below w6.heap.size w6 (put4 v9 v2.heap.size (.slice A0 n0 k0) (.slice A1 n1 k1) (.slice A2 n2 k2) (.slice A3 n3 k3)) := put4_below hHeld LM.out _ _ _ _
        have HVV := Lib.hid (put4_bk (a0 := .slice A0 n0 k0) (a1 := .slice A1 n1 k1) (a2 := .slice A2 n2 k2) (a3 := .slice A3 n3 k3) KM.out)
        have HOO := Lib.hid (ownM_set (((KM.out.set 0 (.slice A0 n0 k0)).set 1 (.slice A1 n1 k1)).set 2 (.slice A2 n2 k2)) (ownM_set ((KM.out.set 0 (.slice A0 n0 k0)).set 1 (.slice A1 n1 k1)) (ownM_set (KM.out.set 0 (.slice A0 n0 k0)) (ownM_set KM.out KO.out 0 (.slice A0 n0 k0)) 1 (.slice A1 n1 k1)) 2 (.slice A2 n2 k2)) 3 (.slice A3 n3 k3))
        refine hK.out _ _ hS (fun hHeld2 => ?_)
        clear hK K hS hHeld r0 r1 r2 r3 f0 f1 f2 f3 hlz
        have hHeld := hHeld2
        clear hHeld2
        try simp only [Act.put, List.setIfInBounds_toArray, List.set_cons_zero, List.set_cons_succ]
        refine wpAnyH_take (i := 9) (oi := _) (v := ?_) (by simp only [List.getElem?_toArray, List.getElem?_cons_succ, List.getElem?_cons_zero]; rfl) (by kernel_rfl) (by kernel_rfl) (by kernel_rfl) (by exact fun _ _ _ h => h) (Or.inl ⟨by rfl, ?hyx119⟩) (by exact hHeld) ?rex119
        case hyx119 => (intro u hu; clear hu; go_simp <;> with_reducible rfl)
        try simp only [Act.put, List.setIfInBounds_toArray, List.set_cons_zero, List.set_cons_succ]
        refine wpAnyH_done (by kernel_rfl) ?_ _
        exact ⟨v2.heap.size, A0, k0, A1, k1, A2, k2, A3, k3, by simp only [upd, List.setIfInBounds_toArray, List.set_cons_zero, List.set_cons_succ], hHeld, HVV.out, HOO.out, LM.out⟩
    · go_simp
      obtain ⟨v13, hw⟩ : ∃ u, u = u0.alloc (.cells #[.slice none 0 0, .slice none 0 0, .slice none 0 0, .slice none 0 0] 29) := ⟨_, rfl⟩
      rw [← hw]
      have hb : Below u0.heap.size u0 v13 := by rw [hw]; exact al_below _ _
      have KM : Hid (Bk v13 u0.heap.size 29 [.slice none 0 0, .slice none 0 0, .slice none 0 0, .slice none 0 0]) := Lib.hid (by rw [hw]; exact Bk.new _ _ _)
      have LM : Hid (w6.heap.size ≤ u0.heap.size) := Lib.hid hHeld.size
      clear hw
      have hS : Below w6.heap.size w6 v13 := hHeld.trans (hb.mono hHeld.size)
      clear hb
      refine hK.out _ _ hS (fun hHeld2 => ?_)
      clear hK K hHeld hS
      have hHeld := hHeld2
      clear hHeld2
      try simp only [Act.put, List.setIfInBounds_toArray, List.set_cons_zero, List.set_cons_succ]
      refine wpAnyH_ready (rs := [2]) (by kernel_rfl) (by simp) ?_
      refine AllReadyH.cons (o := _) (by simp only [List.getElem?_toArray, List.getElem?_cons_succ, List.getElem?_cons_zero]; rfl) (fun K hK => ?_) (AllReadyH.nil)
      go_simp
      (with_reducible refine (HF8.out _ hHeld).mono ?_)
      rintro e v14 ⟨he, hb⟩; obtain rfl := he
      replace KM := Lib.hid (KM.out.below hb KM.out.lt)
      have hS : Below w6.heap.size w6 v14 := hHeld.trans (hb.mono hHeld.size)
      clear hb
      go_simp
      refine hK.out _ _ hS (fun hHeld2 => ?_)
      clear hK K hHeld hS
      have hHeld := hHeld2
      clear hHeld2
      try simp only [Act.put, List.setIfInBounds_toArray, List.set_cons_zero, List.set_cons_succ]
      refine wpAnyH_ready (rs := [3]) (by kernel_rfl) (by simp) ?_
      refine AllReadyH.cons (o := _) (by simp only [List.getElem?_toArray, List.getElem?_cons_succ, List.getElem?_cons_zero]; rfl) (fun K hK => ?_) (AllReadyH.nil)
      go_simp
      (with_reducible refine (HT8.out _ hHeld).mono ?_)
      rintro e v15 hh
      obtain ⟨A0, k0, A1, k1, A2, k2, A3, k3, he, ho, hb⟩ := hh.got HN0.out HN1.out HN2.out HN3.out
      obtain rfl := he
      replace KM := Lib.hid (KM.out.below hb KM.out.lt)
      have KO := Lib.hid (ho.base hHeld.size)
      clear ho hh
      have hS : Below w6.heap.size w6 v15 := hHeld.trans (hb.mono hHeld.size)
      clear hb
      go_simp
      refine hK.out _ _ hS (fun hHeld2 => ?_)
      clear hK K hHeld hS
      have hHeld := hHeld2
      clear hHeld2
      try simp only [Act.put, List.setIfInBounds_toArray, List.set_cons_zero, List.set_cons_succ]
      refine wpAnyH_take (i := 4) (oi := _) (v := ?_) (by simp only [List.getElem?_toArray, List.getElem?_cons_succ, List.getElem?_cons_zero]; rfl) (by kernel_rfl) (by kernel_rfl) (by kernel_rfl) (by exact fun _ _ _ h => h) (Or.inl ⟨by rfl, ?hyx154⟩) (by exact hHeld) ?rex154
      case hyx154 => (intro u hu; clear hu; go_simp <;> with_reducible rfl)
      try simp only [Act.put, List.setIfInBounds_toArray, List.set_cons_zero, List.set_cons_succ]
      refine wpAnyH_take (i := 5) (oi := _) (v := ?_) (by simp only [List.getElem?_toArray, List.getElem?_cons_succ, List.getElem?_cons_zero]; rfl) (by kernel_rfl) (by kernel_rfl) (by kernel_rfl) (by exact fun _ _ _ h => h) (Or.inl ⟨by rfl, ?hyx155⟩) (by exact hHeld) ?rex155
      case hyx155 => (intro u hu; clear hu; go_simp <;> with_reducible rfl)
      try simp only [Act.put, List.setIfInBounds_toArray, List.set_cons_zero, List.set_cons_succ]
      refine wpAnyH_take (i := 6) (oi := _) (v := ?_) (by simp only [List.getElem?_toArray, List.getElem?_cons_succ, List.getElem?_cons_zero]; rfl) (by kernel_rfl) (by kernel_rfl) (by kernel_rfl) (by exact fun _ _ _ h => h) (Or.inl ⟨by rfl, ?hyx156⟩) (by exact hHeld) ?rex156
      case hyx156 => (intro u hu; clear hu; go_simp <;> with_reducible rfl)
      try simp only [Act.put, List.setIfInBounds_toArray, List.set_cons_zero, List.set_cons_succ]
      obtain ⟨r0, r1, r2, r3⟩ := four_cells KM.out
      obtain ⟨f0, f1, f2, f3⟩ := four_frozen KM.out
      have hlz := KM.out.lt
      refine wpAnyH_ready (rs := [8]) (by kernel_rfl) (by simp) ?_
      refine AllReadyH.cons (o := _) (by simp only [List.getElem?_toArray, List.getElem?_cons_succ, List.getElem?_cons_zero]; rfl) (fun K hK => ?_) AllReadyH.nil
      go_simp
      change K _ (put4 v15 u0.heap.size (.slice A0 n0 k0) (.slice A1 n1 k1) (.slice A2 n2 k2) (.slice A3 n3 k3))
      have hS : Below w6.heap.size w6 (put4 v15 u0.heap.size (.slice A0 n0 k0) (.slice A1 n1 k1) (.slice A2 n2 k2) (.slice A3 n3 k3)) := put4_below hHeld LM.out _ _ _ _
      have HVV := Lib.hid (put4_bk (a0 := .slice A0 n0 k0) (a1 := .slice A1 n1 k1) (a2 := .slice A2 n2 k2) (a3 := .slice A3 n3 k3) KM.out)
      have HOO := Lib.hid (ownM_set (((KM.out.set 0 (.slice A0 n0 k0)).set 1 (.slice A1 n1 k1)).set 2 (.slice A2 n2 k2)) (ownM_set ((KM.out.set 0 (.slice A0 n0 k0)).set 1 (.slice A1 n1 k1)) (ownM_set (KM.out.set 0 (.slice A0 n0 k0)) (ownM_set KM.out KO.out 0 (.slice A0 n0 k0)) 1 (.slice A1 n1 k1)) 2 (.slice A2 n2 k2)) 3 (.slice A3 n3 k3))
      refine hK.out _ _ hS (fun hHeld2 => ?_)
      clear hK K hS hHeld r0 r1 r2 r3 f0 f1 f2 f3 hlz
      have hHeld := hHeld2
      clear hHeld2
      try simp only [Act.put, List.setIfInBounds_toArray, List.set_cons_zero, List.set_cons_succ]
      refine wpAnyH_take (i := 9) (oi := _) (v := ?_) (by simp only [List.getElem?_toArray, List.getElem?_cons_succ, List.getElem?_cons_zero]; rfl) (by kernel_rfl) (by kernel_rfl) (by kernel_rfl) (by exact fun _ _ _ h => h) (Or.inl ⟨by rfl, ?hyx179⟩) (by exact hHeld) ?rex179
      case hyx179 => (intro u hu; clear hu; go_simp <;> with_reducible rfl)
      try simp only [Act.put, List.setIfInBounds_toArray, List.set_cons_zero, List.set_cons_succ]
      refine wpAnyH_done (by kernel_rfl) ?_ _
      exact ⟨u0.heap.size, A0, k0, A1, k1, A2, k2, A3, k3, by simp only [upd, List.setIfInBounds_toArray, List.set_cons_zero, List.set_cons_succ], hHeld, HVV.out, HOO.out, LM.out⟩
  rintro a u8 ⟨M2, A0, k0, A1, k1, A2, k2, A3, k3, rfl, hb8, hv8, ho8, hm8⟩
  dsimp only
  simp only [upd, List.setIfInBounds_toArray, List.set_cons_zero, List.set_cons_succ]
  replace HB := Lib.hid (HB.out.trans (hb8.mono HB.out.size))
  replace HG := Lib.hid (HG.out.below hb8 HG.out.lt)
  replace HTL := Lib.hid (HTL.out.later hb8)
  have HV2 := Lib.hid hv8
  have HO2 := Lib.hid ho8
  clear hb8 hv8 ho8 hm8 HF8 HT8 g0 g1 g2 g3 q0 q1 q2 q3 hltg hltm y0 y1 y2 y3 hlty HL HT1 HO1 HM HV1
  obtain ⟨g0, g1, g2, g3⟩ := four_cells HG.out
  obtain ⟨x0, x1, x2, x3⟩ := four_cells HV2.out
  go_wp2_with (first
    | (go_at_call 13; (with_reducible refine (HLAY2.out _ _ _ _ _ _ _ _ _ HO2.out.lies).mono ?_); rintro e w1 hh; obtain ⟨C2, c2, L2, he, -, hcap, -, hsa, hb⟩ := hh.got; rw [HKL.out] at he hcap; obtain rfl := he; replace HB := Lib.hid (HB.out.trans (hb.mono HB.out.size)); replace HG := Lib.hid (HG.out.below hb HG.out.lt); replace HTL := Lib.hid (HTL.out.later hb); replace HV2 := Lib.hid (HV2.out.below hb HV2.out.lt); replace HO2 := Lib.hid (HO2.out.below hb); have HT2 := Lib.hid hsa; clear hsa hcap; clear g0 g1 g2 g3 x0 x1 x2 x3 hb; obtain ⟨g0, g1, g2, g3⟩ := four_cells HG.out; obtain ⟨x0, x1, x2, x3⟩ := four_cells HV2.out)
    | (go_at_call 20; (with_reducible refine (HFEW.out _ HTL.out).mono ?_); rintro e w2 ⟨he, hb⟩; obtain rfl := he; replace HB := Lib.hid (HB.out.trans (hb.mono HB.out.size)); replace HG := Lib.hid (HG.out.below hb HG.out.lt); replace HTL := Lib.hid (HTL.out.later hb); replace HV2 := Lib.hid (HV2.out.below hb HV2.out.lt); replace HO2 := Lib.hid (HO2.out.below hb); replace HT2 := Lib.hid (HT2.out.later hb); clear g0 g1 g2 g3 x0 x1 x2 x3 hb; obtain ⟨g0, g1, g2, g3⟩ := four_cells HG.out; obtain ⟨x0, x1, x2, x3⟩ := four_cells HV2.out)
    | (go_at_call 18; (with_reducible refine (HSEC.out _ _ _ _ HT2.out HTL.out).mono ?_); rintro e w3 ⟨he, hb⟩; obtain rfl := he; replace HB := Lib.hid (HB.out.trans (hb.mono HB.out.size)); replace HG := Lib.hid (HG.out.below hb HG.out.lt); replace HTL := Lib.hid (HTL.out.later hb); replace HV2 := Lib.hid (HV2.out.below hb HV2.out.lt); replace HO2 := Lib.hid (HO2.out.below hb); replace HT2 := Lib.hid (HT2.out.later hb); clear g0 g1 g2 g3 x0 x1 x2 x3 hb; obtain ⟨g0, g1, g2, g3⟩ := four_cells HG.out; obtain ⟨x0, x1, x2, x3⟩ := four_cells HV2.out))
  go_ret
  exact ⟨rfl, HB.out⟩
set_option maxRecDepth 100000 in
set_option maxHeartbeats 6400000 in
theorem back_yn (j i g p : Int) (m : Meta.Met) (ho : Okm m) (M0 M1 M2 M3 : Option Addr) (r0 e0 r1 e1 r2 e2 r3 e3 : Nat) (l : List (List UInt8)) (A : Option Addr) (n c : Nat) (L : List Sc) (w : World) (h0 : m.rows.length = r0) (h1 : m.own.length = r1) (h2 : m.used.length = r2) (h3 : m.ino.length = r3) (hl : Lies w w.heap.size ⟨M0, e0, M1, e1, M2, e2, M3, e3⟩ m) (hln : l.length = n) (hc : n ≤ c) (hs : SecsAt w w.heap.size A L l) (hsm : smallB r0 r1 r2 r3 = true) (hR : Meta.Right ⟨j, i, g, p⟩ m) (hT : takM ⟨j, i, g, p⟩ (l.take (fewN 50 l)) = (.z, 140)) :
    Calls Try.prog 5 #[.agg #[.int .i64 j, .int .i64 i, .int .i64 g, .int .i64 p], .agg #[.slice M0 r0 e0, .slice M1 r1 e1, .slice M2 r2 e2, .slice M3 r3 e3], .slice A n c] w fun e w' => e = .returned (.bool true) ∧ Below w.heap.size w w' := by
  obtain ⟨s0, s1, s2, s3⟩ := small_yes hsm
  have HS : Hid (∀ u : World, Calls Try.prog 10 #[.agg #[.slice M0 r0 e0, .slice M1 r1 e1, .slice M2 r2 e2, .slice M3 r3 e3]] u fun e w' => e = .returned (.bool true) ∧ Below u.heap.size u w') := Lib.hid (fun u => by
    have := small_in M0 M1 M2 M3 r0 e0 r1 e1 r2 e2 r3 e3 u
    rwa [hsm] at this)
  have hfl := fewN_le 50 l
  obtain ⟨k, hk⟩ : ∃ k, fewN 50 l = k := ⟨_, rfl⟩
  rw [hk] at hfl hT
  have hkl : (l.take k).length = k := by rw [List.length_take]; omega
  obtain ⟨W, hW⟩ : ∃ W, W = (w.alloc (.cells #[.int .i64 j, .int .i64 i, .int .i64 g, .int .i64 p] 23)).alloc (.cells #[.slice M0 r0 e0, .slice M1 r1 e1, .slice M2 r2 e2, .slice M3 r3 e3] 29) := ⟨_, rfl⟩
  have hbW : Below w.heap.size w W := by rw [hW]; exact (Below.refl _ _).alloc (Nat.le_refl _) _ |>.alloc (by simp) _
  have hG : Bk W w.heap.size 23 [.int .i64 j, .int .i64 i, .int .i64 g, .int .i64 p] := by rw [hW]; exact (geo_box w j i g p).below (al_below _ _) (by simp)
  have hM : Bk W (w.heap.size + 1) 29 [.slice M0 r0 e0, .slice M1 r1 e1, .slice M2 r2 e2, .slice M3 r3 e3] := by
    rw [hW]
    have := Bk.new (w.alloc (.cells #[.int .i64 j, .int .i64 i, .int .i64 g, .int .i64 p] 23)) 29 [.slice M0 r0 e0, .slice M1 r1 e1, .slice M2 r2 e2, .slice M3 r3 e3]
    simpa using this
  have HG := Lib.hid hG
  have HM := Lib.hid hM
  have HB := Lib.hid hbW
  have HW := Lib.hid hW
  have HL := Lib.hid (hl.later hbW)
  have HTL := Lib.hid (hs.later hbW)
  obtain ⟨g0, g1, g2, g3⟩ := four_cells hG
  obtain ⟨q0, q1, q2, q3⟩ := four_cells hM
  have hltg := hG.lt
  have hltm := hM.lt
  clear hbW hG hM hW hl hs
  have hq5 := length_secs hR
  have hq6 := hR.geo.i2
  simp only at hq5 hq6
  obtain ⟨q, hq⟩ : ∃ q, (secs m).length = q := ⟨_, rfl⟩
  have hq40 : q ≤ 40 := by omega
  have HQ := Lib.hid hq
  have HLAY : Hid (∀ u : World, Lies u u.heap.size ⟨M0, e0, M1, e1, M2, e2, M3, e3⟩ m → Calls Try.prog 13 #[.agg #[.int .i64 j, .int .i64 i, .int .i64 g, .int .i64 p], .agg #[.slice M0 r0 e0, .slice M1 r1 e1, .slice M2 r2 e2, .slice M3 r3 e3]] u fun e w' => HandsL u (secs m, 0) e w') := Lib.hid (fun u hl => by
    have := lay_in j i g p m ho M0 M1 M2 M3 r0 e0 r1 e1 r2 e2 r3 e3 u h0 h1 h2 h3 hl (by omega)
    rwa [lay_yes hR] at this)
  have HTAKE1 : Hid (∀ (u : World) (A : Option Addr) (c : Nat) (L : List Sc), SecsAt u u.heap.size A L (secs m) → q ≤ c → Calls Try.prog 19 #[.agg #[.int .i64 j, .int .i64 i, .int .i64 g, .int .i64 p], .slice A q c] u fun e w' => HandsM u (m, 0) e w') := Lib.hid (fun u A c L hs hc => by
    have := ptake_any ⟨j, i, g, p⟩ (secs m) A q c L u hq hs (by omega) hc
    rwa [tak_secs hR ho] at this)
  have HRIGHT : Hid (∀ u : World, Lies u u.heap.size ⟨M0, e0, M1, e1, M2, e2, M3, e3⟩ m → Calls Try.prog 16 #[.agg #[.int .i64 j, .int .i64 i, .int .i64 g, .int .i64 p], .agg #[.slice M0 r0 e0, .slice M1 r1 e1, .slice M2 r2 e2, .slice M3 r3 e3]] u fun e w' => e = .returned (.bool true) ∧ Below u.heap.size u w') := Lib.hid (fun u hl => by
    have := right_in j i g p m ho M0 M1 M2 M3 r0 e0 r1 e1 r2 e2 r3 e3 u h0 h1 h2 h3 hl (by omega)
    rwa [rightB_yes hR] at this)
  have HSAME1 : Hid (∀ (u : World) (B0 B1 B2 B3 : Option Addr) (d0 d1 d2 d3 : Nat), Lies u u.heap.size ⟨B0, d0, B1, d1, B2, d2, B3, d3⟩ m → Lies u u.heap.size ⟨M0, e0, M1, e1, M2, e2, M3, e3⟩ m → Calls Try.prog 15 #[.agg #[.slice B0 r0 d0, .slice B1 r1 d1, .slice B2 r2 d2, .slice B3 r3 d3], .agg #[.slice M0 r0 e0, .slice M1 r1 e1, .slice M2 r2 e2, .slice M3 r3 e3]] u fun e w' => e = .returned (.bool true) ∧ Below u.heap.size u w') := Lib.hid (fun u B0 B1 B2 B3 d0 d1 d2 d3 hl hk =>
    rsame_in m ho B0 B1 B2 B3 M0 M1 M2 M3 r0 d0 r1 d1 r2 d2 r3 d3 e0 e1 e2 e3 u h0 h1 h2 h3 hl hk (by omega))
  have HP0 := Lib.hid h0
  have HP1 := Lib.hid h1
  have HP2 := Lib.hid h2
  have HP3 := Lib.hid h3
  have HFEW : Hid (∀ u : World, SecsAt u u.heap.size A L l → Calls Try.prog 20 #[.slice A n c] u fun e w' => e = .returned (.slice A k c) ∧ Below u.heap.size u w') := Lib.hid (fun u hu => by
    have := few_any l A n c L u hln hu hc
    rwa [hk] at this)
  have HTAKE2 : Hid (∀ u : World, SecsAt u u.heap.size A L l → Calls Try.prog 19 #[.agg #[.int .i64 j, .int .i64 i, .int .i64 g, .int .i64 p], .slice A k c] u fun e w' => HandsM u (.z, 140) e w') := Lib.hid (fun u hu => by
    have := ptake_any ⟨j, i, g, p⟩ (l.take k) A k c (L.take k) u hkl (hu.few k) (by omega) (by omega)
    rwa [hT] at this)
  have HN0 : Hid (Met.z.rows.length = 0) := Lib.hid rfl
  have HN1 : Hid (Met.z.own.length = 0) := Lib.hid rfl
  have HN2 : Hid (Met.z.used.length = 0) := Lib.hid rfl
  have HN3 : Hid (Met.z.ino.length = 0) := Lib.hid rfl
  have HLAY2 : Hid (∀ (u : World) (A0 A1 A2 A3 : Option Addr) (k0 k1 k2 k3 : Nat), Lies u u.heap.size ⟨A0, k0, A1, k1, A2, k2, A3, k3⟩ .z → Calls Try.prog 13 #[.agg #[.int .i64 j, .int .i64 i, .int .i64 g, .int .i64 p], .agg #[.slice A0 0 k0, .slice A1 0 k1, .slice A2 0 k2, .slice A3 0 k3]] u fun e w' => HandsL u ([], 1) e w') := Lib.hid (fun u A0 A1 A2 A3 k0 k1 k2 k3 hl => by
    have := lay_in j i g p .z Okm.z A0 A1 A2 A3 0 k0 0 k1 0 k2 0 k3 u rfl rfl rfl rfl hl (by decide)
    rwa [lay_no (not_right_z _)] at this)
  have HSAME2 : Hid (∀ (u : World) (A0 A1 A2 A3 : Option Addr) (k0 k1 k2 k3 : Nat), Lies u u.heap.size ⟨A0, k0, A1, k1, A2, k2, A3, k3⟩ .z → Calls Try.prog 15 #[.agg #[.slice A0 0 k0, .slice A1 0 k1, .slice A2 0 k2, .slice A3 0 k3], .agg #[.slice none 0 0, .slice none 0 0, .slice none 0 0, .slice none 0 0]] u fun e w' => e = .returned (.bool true) ∧ Below u.heap.size u w') := Lib.hid (fun u A0 A1 A2 A3 k0 k1 k2 k3 hl =>
    rsame_in .z Okm.z A0 A1 A2 A3 none none none none 0 k0 0 k1 0 k2 0 k3 0 0 0 0 u rfl rfl rfl rfl hl (lies_z u) (by decide))
  clear hsm ho h0 h1 h2 h3 hln hc hR hT hfl hk hkl s0 s1 s2 s3 hq5 hq6 hq
  go_enter Try.func5, Try.ntmps5
  go_upto_region 1 with fail
  rw [← HW.out]
  go_upto_region 8 with (first
    | (go_at_call 9; (with_reducible refine (shown_any _).mono ?_); rintro e w1 ⟨he, hb⟩; obtain rfl := he; replace HB := Lib.hid (HB.out.trans (hb.mono HB.out.size)); replace HG := Lib.hid (HG.out.below hb HG.out.lt); replace HM := Lib.hid (HM.out.below hb HM.out.lt); replace HL := Lib.hid (HL.out.later hb); replace HTL := Lib.hid (HTL.out.later hb); clear g0 g1 g2 g3 q0 q1 q2 q3 hltg hltm hb; obtain ⟨g0, g1, g2, g3⟩ := four_cells HG.out; have hltg := HG.out.lt; obtain ⟨q0, q1, q2, q3⟩ := four_cells HM.out; have hltm := HM.out.lt)
    | (go_at_call 10; (with_reducible refine (HS.out _).mono ?_); rintro e w2 ⟨he, hb⟩; obtain rfl := he; replace HB := Lib.hid (HB.out.trans (hb.mono HB.out.size)); replace HG := Lib.hid (HG.out.below hb HG.out.lt); replace HM := Lib.hid (HM.out.below hb HM.out.lt); replace HL := Lib.hid (HL.out.later hb); replace HTL := Lib.hid (HTL.out.later hb); clear g0 g1 g2 g3 q0 q1 q2 q3 hltg hltm hb; obtain ⟨g0, g1, g2, g3⟩ := four_cells HG.out; have hltg := HG.out.lt; obtain ⟨q0, q1, q2, q3⟩ := four_cells HM.out; have hltm := HM.out.lt)
    | (go_at_call 13; (with_reducible refine (HLAY.out _ HL.out).mono ?_); rintro e w3 hh; obtain ⟨C1, c1, L1, he, -, hcap, -, hsa, hb⟩ := hh.got; rw [HQ.out] at he hcap; obtain rfl := he; replace HB := Lib.hid (HB.out.trans (hb.mono HB.out.size)); replace HG := Lib.hid (HG.out.below hb HG.out.lt); replace HM := Lib.hid (HM.out.below hb HM.out.lt); replace HL := Lib.hid (HL.out.later hb); replace HTL := Lib.hid (HTL.out.later hb); have HT1 := Lib.hid hsa; have HCAP := Lib.hid hcap; clear hsa hcap; clear g0 g1 g2 g3 q0 q1 q2 q3 hltg hltm hb; obtain ⟨g0, g1, g2, g3⟩ := four_cells HG.out; have hltg := HG.out.lt; obtain ⟨q0, q1, q2, q3⟩ := four_cells HM.out; have hltm := HM.out.lt)
    | (go_at_call 19; (with_reducible refine (HTAKE1.out _ _ _ _ HT1.out HCAP.out).mono ?_); rintro e w4 hh; obtain ⟨B0, d0, B1, d1, B2, d2, B3, d3, he, ho, hb⟩ := hh.got HP0.out HP1.out HP2.out HP3.out; obtain rfl := he; replace HB := Lib.hid (HB.out.trans (hb.mono HB.out.size)); replace HG := Lib.hid (HG.out.below hb HG.out.lt); replace HM := Lib.hid (HM.out.below hb HM.out.lt); replace HL := Lib.hid (HL.out.later hb); replace HTL := Lib.hid (HTL.out.later hb); replace HT1 := Lib.hid (HT1.out.later hb); have HO1 := Lib.hid ho; clear ho; clear g0 g1 g2 g3 q0 q1 q2 q3 hltg hltm hb; obtain ⟨g0, g1, g2, g3⟩ := four_cells HG.out; have hltg := HG.out.lt; obtain ⟨q0, q1, q2, q3⟩ := four_cells HM.out; have hltm := HM.out.lt)
    | (go_at_call 16; have hal := al_below w4 (.cells #[.slice B0 r0 d0, .slice B1 r1 d1, .slice B2 r2 d2, .slice B3 r3 d3] 29); replace HB := Lib.hid (HB.out.trans (hal.mono HB.out.size)); replace HG := Lib.hid (HG.out.below hal HG.out.lt); replace HM := Lib.hid (HM.out.below hal HM.out.lt); replace HL := Lib.hid (HL.out.later hal); replace HTL := Lib.hid (HTL.out.later hal); replace HT1 := Lib.hid (HT1.out.later hal); replace HO1 := Lib.hid (HO1.out.below hal); have HV1 := Lib.hid (Bk.new w4 29 [.slice B0 r0 d0, .slice B1 r1 d1, .slice B2 r2 d2, .slice B3 r3 d3]); clear hal; (with_reducible refine (HRIGHT.out _ HL.out).mono ?_); rintro e w5 ⟨he, hb⟩; obtain rfl := he; replace HB := Lib.hid (HB.out.trans (hb.mono HB.out.size)); replace HG := Lib.hid (HG.out.below hb HG.out.lt); replace HM := Lib.hid (HM.out.below hb HM.out.lt); replace HL := Lib.hid (HL.out.later hb); replace HTL := Lib.hid (HTL.out.later hb); replace HT1 := Lib.hid (HT1.out.later hb); replace HO1 := Lib.hid (HO1.out.below hb); replace HV1 := Lib.hid (HV1.out.below hb HV1.out.lt); clear g0 g1 g2 g3 q0 q1 q2 q3 hltg hltm hb; obtain ⟨g0, g1, g2, g3⟩ := four_cells HG.out; have hltg := HG.out.lt; obtain ⟨q0, q1, q2, q3⟩ := four_cells HM.out; have hltm := HM.out.lt; obtain ⟨y0, y1, y2, y3⟩ := four_cells HV1.out; have hlty := HV1.out.lt)
    | (go_at_call 15; (with_reducible refine (HSAME1.out _ _ _ _ _ _ _ _ _ HO1.out.lies HL.out).mono ?_); rintro e w6 ⟨he, hb⟩; obtain rfl := he; replace HB := Lib.hid (HB.out.trans (hb.mono HB.out.size)); replace HG := Lib.hid (HG.out.below hb HG.out.lt); replace HM := Lib.hid (HM.out.below hb HM.out.lt); replace HL := Lib.hid (HL.out.later hb); replace HTL := Lib.hid (HTL.out.later hb); replace HT1 := Lib.hid (HT1.out.later hb); replace HO1 := Lib.hid (HO1.out.below hb); replace HV1 := Lib.hid (HV1.out.below hb HV1.out.lt); clear g0 g1 g2 g3 q0 q1 q2 q3 y0 y1 y2 y3 hltg hltm hlty hb; obtain ⟨g0, g1, g2, g3⟩ := four_cells HG.out; have hltg := HG.out.lt; obtain ⟨q0, q1, q2, q3⟩ := four_cells HM.out; have hltm := HM.out.lt; obtain ⟨y0, y1, y2, y3⟩ := four_cells HV1.out; have hlty := HV1.out.lt))
  have HF8 := Lib.hid (fun (u : World) (hu : Below w6.heap.size w6 u) => HFEW.out u (HTL.out.later hu))
  have HT8 := Lib.hid (fun (u : World) (hu : Below w6.heap.size w6 u) => HTAKE2.out u (HTL.out.later hu))
  refine wp_cutA (fun a0 a u => ∃ M A0 k0 A1 k1 A2 k2 A3 k3, a = { tmps := upd a0.tmps [(63, .agg #[.int .i64 j, .int .i64 i, .int .i64 g, .int .i64 p]), (64, .slice A n c), (65, .slice A k c), (66, .tuple #[.agg #[.slice A0 0 k0, .slice A1 0 k1, .slice A2 0 k2, .slice A3 0 k3], .int .i64 140]), (62, .tuple #[.agg #[.slice A0 0 k0, .slice A1 0 k1, .slice A2 0 k2, .slice A3 0 k3], .int .i64 140]), (67, .agg #[.slice A0 0 k0, .slice A1 0 k1, .slice A2 0 k2, .slice A3 0 k3]), (68, .int .i64 140), (12, .pointer (some ⟨M, 0, none⟩)), (13, .int .i64 140)], defers := a0.defers } ∧ Below w6.heap.size w6 u ∧ Bk u M 29 [.slice A0 0 k0, .slice A1 0 k1, .slice A2 0 k2, .slice A3 0 k3] ∧ OwnM u w6.heap.size ⟨A0, k0, A1, k1, A2, k2, A3, k3⟩ .z ∧ w6.heap.size ≤ M) ?_ ?_
  · clear g0 g1 g2 g3 q0 q1 q2 q3 hltg hltm y0 y1 y2 y3 hlty HB HL HTL HT1 HO1 HM HV1
    have hS0 : Below w6.heap.size w6 w6.drew := (Below.refl _ _).drew
    refine wp_region_held_drew (S := fun u => Below w6.heap.size w6 u) (by kernel_rfl) hS0 (fun hHeld => ?_)
    refine wpAnyH_take (i := 0) (oi := _) (v := ?_) (by simp only [List.getElem?_toArray, List.getElem?_cons_zero]; rfl) (by kernel_rfl) (by kernel_rfl) (by kernel_rfl) (by exact fun _ _ _ h => h) (Or.inl ⟨by rfl, ?hyx00⟩) (by exact hHeld) ?rex00
    case hyx00 => (intro u hu; obtain ⟨g0, g1, g2, g3⟩ := four_cells (HG.out.below hu HG.out.lt); clear hu; go_simp <;> with_reducible rfl)
    try simp only [Act.put, List.setIfInBounds_toArray, List.set_cons_zero, List.set_cons_succ]
    refine wpAnyH_take (i := 1) (oi := _) (v := ?_) (by simp only [List.getElem?_toArray, List.getElem?_cons_succ, List.getElem?_cons_zero]; rfl) (by kernel_rfl) (by kernel_rfl) (by kernel_rfl) (by exact fun _ _ _ h => h) (Or.inl ⟨by rfl, ?hyx01⟩) (by exact hHeld) ?rex01
    case hyx01 => (intro u hu; obtain ⟨g0, g1, g2, g3⟩ := four_cells (HG.out.below hu HG.out.lt); clear hu; go_simp <;> with_reducible rfl)
    try simp only [Act.put, List.setIfInBounds_toArray, List.set_cons_zero, List.set_cons_succ]
    clear hS0
    generalize hu0 : w6.drew = u0 at *
    clear hu0
    refine wpAnyH_ready (rs := [2, 7]) (by kernel_rfl) (by simp) ?_
    refine AllReadyH.cons (o := _) (by simp only [List.getElem?_toArray, List.getElem?_cons_succ, List.getElem?_cons_zero]; rfl) (fun K hK => ?_) (AllReadyH.cons (o := _) (by simp only [List.getElem?_toArray, List.getElem?_cons_succ, List.getElem?_cons_zero]; rfl) (fun K hK => ?_) (AllReadyH.nil))
    · go_simp
      (with_reducible refine (HF8.out _ hHeld).mono ?_)
      rintro e v2 ⟨he, hb⟩; obtain rfl := he
      have hS : Below w6.heap.size w6 v2 := hHeld.trans (hb.mono hHeld.size)
      clear hb
      go_simp
      refine hK.out _ _ hS (fun hHeld2 => ?_)
      clear hK K hHeld hS
      have hHeld := hHeld2
      clear hHeld2
      try simp only [Act.put, List.setIfInBounds_toArray, List.set_cons_zero, List.set_cons_succ]
      refine wpAnyH_ready (rs := [3, 7]) (by kernel_rfl) (by simp) ?_
      refine AllReadyH.cons (o := _) (by simp only [List.getElem?_toArray, List.getElem?_cons_succ, List.getElem?_cons_zero]; rfl) (fun K hK => ?_) (AllReadyH.cons (o := _) (by simp only [List.getElem?_toArray, List.getElem?_cons_succ, List.getElem?_cons_zero]; rfl) (fun K hK => ?_) (AllReadyH.nil))
      · go_simp
        (with_reducible refine (HT8.out _ hHeld).mono ?_)
        rintro e v3 hh
        obtain ⟨A0, k0, A1, k1, A2, k2, A3, k3, he, ho, hb⟩ := hh.got HN0.out HN1.out HN2.out HN3.out
        obtain rfl := he
        have KO := Lib.hid (ho.base hHeld.size)
        clear ho hh
        have hS : Below w6.heap.size w6 v3 := hHeld.trans (hb.mono hHeld.size)
        clear hb
        go_simp
        refine hK.out _ _ hS (fun hHeld2 => ?_)
        clear hK K hHeld hS
        have hHeld := hHeld2
        clear hHeld2
        try simp only [Act.put, List.setIfInBounds_toArray, List.set_cons_zero, List.set_cons_succ]
        refine wpAnyH_take (i := 4) (oi := _) (v := ?_) (by simp only [List.getElem?_toArray, List.getElem?_cons_succ, List.getElem?_cons_zero]; rfl) (by kernel_rfl) (by kernel_rfl) (by kernel_rfl) (by exact fun _ _ _ h => h) (Or.inl ⟨by rfl, ?hyx34⟩) (by exact hHeld) ?rex34
        case hyx34 => (intro u hu; clear hu; go_simp <;> with_reducible rfl)
        try simp only [Act.put, List.setIfInBounds_toArray, List.set_cons_zero, List.set_cons_succ]
        refine wpAnyH_take (i := 5) (oi := _) (v := ?_) (by simp only [List.getElem?_toArray, List.getElem?_cons_succ, List.getElem?_cons_zero]; rfl) (by kernel_rfl) (by kernel_rfl) (by kernel_rfl) (by exact fun _ _ _ h => h) (Or.inl ⟨by rfl, ?hyx35⟩) (by exact hHeld) ?rex35
        case hyx35 => (intro u hu; clear hu; go_simp <;> with_reducible rfl)
        try simp only [Act.put, List.setIfInBounds_toArray, List.set_cons_zero, List.set_cons_succ]
        refine wpAnyH_take (i := 6) (oi := _) (v := ?_) (by simp only [List.getElem?_toArray, List.getElem?_cons_succ, List.getElem?_cons_zero]; rfl) (by kernel_rfl) (by kernel_rfl) (by kernel_rfl) (by exact fun _ _ _ h => h) (Or.inl ⟨by rfl, ?hyx36⟩) (by exact hHeld) ?rex36
        case hyx36 => (intro u hu; clear hu; go_simp <;> with_reducible rfl)
        try simp only [Act.put, List.setIfInBounds_toArray, List.set_cons_zero, List.set_cons_succ]
        refine wpAnyH_ready (rs := [7]) (by kernel_rfl) (by simp) ?_
        refine AllReadyH.cons (o := _) (by simp only [List.getElem?_toArray, List.getElem?_cons_succ, List.getElem?_cons_zero]; rfl) (fun K hK => ?_) (AllReadyH.nil)
        go_simp
        obtain ⟨v5, hw⟩ : ∃ u, u = v3.alloc (.cells #[.slice none 0 0, .slice none 0 0, .slice none 0 0, .slice none 0 0] 29) := ⟨_, rfl⟩
        rw [← hw]
        have hb : Below v3.heap.size v3 v5 := by rw [hw]; exact al_below _ _
        replace KO := Lib.hid (KO.out.below hb)
        have KM : Hid (Bk v5 v3.heap.size 29 [.slice none 0 0, .slice none 0 0, .slice none 0 0, .slice none 0 0]) := Lib.hid (by rw [hw]; exact Bk.new _ _ _)
        have LM : Hid (w6.heap.size ≤ v3.heap.size) := Lib.hid hHeld.size
        clear hw
        have hS : Below w6.heap.size w6 v5 := hHeld.trans (hb.mono hHeld.size)
        clear hb
        refine hK.out _ _ hS (fun hHeld2 => ?_)
        clear hK K hHeld hS
        have hHeld := hHeld2
        clear hHeld2
        try simp only [Act.put, List.setIfInBounds_toArray, List.set_cons_zero, List.set_cons_succ]
        obtain ⟨r0, r1, r2, r3⟩ := four_cells KM.out
        obtain ⟨f0, f1, f2, f3⟩ := four_frozen KM.out
        have hlz := KM.out.lt
        refine wpAnyH_ready (rs := [8]) (by kernel_rfl) (by simp) ?_
        refine AllReadyH.cons (o := _) (by simp only [List.getElem?_toArray, List.getElem?_cons_succ, List.getElem?_cons_zero]; rfl) (fun K hK => ?_) AllReadyH.nil
        go_simp
        change K _ (put4 v5 v3.heap.size (.slice A0 0 k0) (.slice A1 0 k1) (.slice A2 0 k2) (.slice A3 0 k3))
        have hS : Below w6.heap.size w6 (put4 v5 v3.heap.size (.slice A0 0 k0) (.slice A1 0 k1) (.slice A2 0 k2) (.slice A3 0 k3)) := put4_below hHeld LM.out _ _ _ _
        have HVV := Lib.hid (put4_bk (a0 := .slice A0 0 k0) (a1 := .slice A1 0 k1) (a2 := .slice A2 0 k2) (a3 := .slice A3 0 k3) KM.out)
        have HOO := Lib.hid (ownM_set (((KM.out.set 0 (.slice A0 0 k0)).set 1 (.slice A1 0 k1)).set 2 (.slice A2 0 k2)) (ownM_set ((KM.out.set 0 (.slice A0 0 k0)).set 1 (.slice A1 0 k1)) (ownM_set (KM.out.set 0 (.slice A0 0 k0)) (ownM_set KM.out KO.out 0 (.slice A0 0 k0)) 1 (.slice A1 0 k1)) 2 (.slice A2 0 k2)) 3 (.slice A3 0 k3))
        refine hK.out _ _ hS (fun hHeld2 => ?_)
        clear hK K hS hHeld r0 r1 r2 r3 f0 f1 f2 f3 hlz
        have hHeld := hHeld2
        clear hHeld2
        try simp only [Act.put, List.setIfInBounds_toArray, List.set_cons_zero, List.set_cons_succ]
        refine wpAnyH_take (i := 9) (oi := _) (v := ?_) (by simp only [List.getElem?_toArray, List.getElem?_cons_succ, List.getElem?_cons_zero]; rfl) (by kernel_rfl) (by kernel_rfl) (by kernel_rfl) (by exact fun _ _ _ h => h) (Or.inl ⟨by rfl, ?hyx69⟩) (by exact hHeld) ?rex69
        case hyx69 => (intro u hu; clear hu; go_simp <;> with_reducible rfl)
        try simp only [Act.put, List.setIfInBounds_toArray, List.set_cons_zero, List.set_cons_succ]
        refine wpAnyH_done (by kernel_rfl) ?_ _
        exact ⟨v3.heap.size, A0, k0, A1, k1, A2, k2, A3, k3, by simp only [upd, List.setIfInBounds_toArray, List.set_cons_zero, List.set_cons_succ], hHeld, HVV.out, HOO.out, LM.out⟩
      · go_simp
        obtain ⟨v8, hw⟩ : ∃ u, u = v2.alloc (.cells #[.slice none 0 0, .slice none 0 0, .slice none 0 0, .slice none 0 0] 29) := ⟨_, rfl⟩
        rw [← hw]
        have hb : Below v2.heap.size v2 v8 := by rw [hw]; exact al_below _ _
        have KM : Hid (Bk v8 v2.heap.size 29 [.slice none 0 0, .slice none 0 0, .slice none 0 0, .slice none 0 0]) := Lib.hid (by rw [hw]; exact Bk.new _ _ _)
        have LM : Hid (w6.heap.size ≤ v2.heap.size) := Lib.hid hHeld.size
        clear hw
        have hS : Below w6.heap.size w6 v8 := hHeld.trans (hb.mono hHeld.size)
        clear hb
        refine hK.out _ _ hS (fun hHeld2 => ?_)
        clear hK K hHeld hS
        have hHeld := hHeld2
        clear hHeld2
        try simp only [Act.put, List.setIfInBounds_toArray, List.set_cons_zero, List.set_cons_succ]
        refine wpAnyH_ready (rs := [3]) (by kernel_rfl) (by simp) ?_
        refine AllReadyH.cons (o := _) (by simp only [List.getElem?_toArray, List.getElem?_cons_succ, List.getElem?_cons_zero]; rfl) (fun K hK => ?_) (AllReadyH.nil)
        go_simp
        (with_reducible refine (HT8.out _ hHeld).mono ?_)
        rintro e v9 hh
        obtain ⟨A0, k0, A1, k1, A2, k2, A3, k3, he, ho, hb⟩ := hh.got HN0.out HN1.out HN2.out HN3.out
        obtain rfl := he
        replace KM := Lib.hid (KM.out.below hb KM.out.lt)
        have KO := Lib.hid (ho.base hHeld.size)
        clear ho hh
        have hS : Below w6.heap.size w6 v9 := hHeld.trans (hb.mono hHeld.size)
        clear hb
        go_simp
        refine hK.out _ _ hS (fun hHeld2 => ?_)
        clear hK K hHeld hS
        have hHeld := hHeld2
        clear hHeld2
        try simp only [Act.put, List.setIfInBounds_toArray, List.set_cons_zero, List.set_cons_succ]
        refine wpAnyH_take (i := 4) (oi := _) (v := ?_) (by simp only [List.getElem?_toArray, List.getElem?_cons_succ, List.getElem?_cons_zero]; rfl) (by kernel_rfl) (by kernel_rfl) (by kernel_rfl) (by exact fun _ _ _ h => h) (Or.inl ⟨by rfl, ?hyx94⟩) (by exact hHeld) ?rex94
        case hyx94 => (intro u hu; clear hu; go_simp <;> with_reducible rfl)
        try simp only [Act.put, List.setIfInBounds_toArray, List.set_cons_zero, List.set_cons_succ]
        refine wpAnyH_take (i := 5) (oi := _) (v := ?_) (by simp only [List.getElem?_toArray, List.getElem?_cons_succ, List.getElem?_cons_zero]; rfl) (by kernel_rfl) (by kernel_rfl) (by kernel_rfl) (by exact fun _ _ _ h => h) (Or.inl ⟨by rfl, ?hyx95⟩) (by exact hHeld) ?rex95
        case hyx95 => (intro u hu; clear hu; go_simp <;> with_reducible rfl)
        try simp only [Act.put, List.setIfInBounds_toArray, List.set_cons_zero, List.set_cons_succ]
        refine wpAnyH_take (i := 6) (oi := _) (v := ?_) (by simp only [List.getElem?_toArray, List.getElem?_cons_succ, List.getElem?_cons_zero]; rfl) (by kernel_rfl) (by kernel_rfl) (by kernel_rfl) (by exact fun _ _ _ h => h) (Or.inl ⟨by rfl, ?hyx96⟩) (by exact hHeld) ?rex96
        case hyx96 => (intro u hu; clear hu; go_simp <;> with_reducible rfl)
        try simp only [Act.put, List.setIfInBounds_toArray, List.set_cons_zero, List.set_cons_succ]
        obtain ⟨r0, r1, r2, r3⟩ := four_cells KM.out
        obtain ⟨f0, f1, f2, f3⟩ := four_frozen KM.out
        have hlz := KM.out.lt
        refine wpAnyH_ready (rs := [8]) (by kernel_rfl) (by simp) ?_
        refine AllReadyH.cons (o := _) (by simp only [List.getElem?_toArray, List.getElem?_cons_succ, List.getElem?_cons_zero]; rfl) (fun K hK => ?_) AllReadyH.nil
        go_simp
        change K _ (put4 v9 v2.heap.size (.slice A0 0 k0) (.slice A1 0 k1) (.slice A2 0 k2) (.slice A3 0 k3))
        have hS : Below w6.heap.size w6 (put4 v9 v2.heap.size (.slice A0 0 k0) (.slice A1 0 k1) (.slice A2 0 k2) (.slice A3 0 k3)) := put4_below hHeld LM.out _ _ _ _
        have HVV := Lib.hid (put4_bk (a0 := .slice A0 0 k0) (a1 := .slice A1 0 k1) (a2 := .slice A2 0 k2) (a3 := .slice A3 0 k3) KM.out)
        have HOO := Lib.hid (ownM_set (((KM.out.set 0 (.slice A0 0 k0)).set 1 (.slice A1 0 k1)).set 2 (.slice A2 0 k2)) (ownM_set ((KM.out.set 0 (.slice A0 0 k0)).set 1 (.slice A1 0 k1)) (ownM_set (KM.out.set 0 (.slice A0 0 k0)) (ownM_set KM.out KO.out 0 (.slice A0 0 k0)) 1 (.slice A1 0 k1)) 2 (.slice A2 0 k2)) 3 (.slice A3 0 k3))
        refine hK.out _ _ hS (fun hHeld2 => ?_)
        clear hK K hS hHeld r0 r1 r2 r3 f0 f1 f2 f3 hlz
        have hHeld := hHeld2
        clear hHeld2
        try simp only [Act.put, List.setIfInBounds_toArray, List.set_cons_zero, List.set_cons_succ]
        refine wpAnyH_take (i := 9) (oi := _) (v := ?_) (by simp only [List.getElem?_toArray, List.getElem?_cons_succ, List.getElem?_cons_zero]; rfl) (by kernel_rfl) (by kernel_rfl) (by kernel_rfl) (by exact fun _ _ _ h => h) (Or.inl ⟨by rfl, ?hyx119⟩) (by exact hHeld) ?rex119
        case hyx119 => (intro u hu; clear hu; go_simp <;> with_reducible rfl)
        try simp only [Act.put, List.setIfInBounds_toArray, List.set_cons_zero, List.set_cons_succ]
        refine wpAnyH_done (by kernel_rfl) ?_ _
        exact ⟨v2.heap.size, A0, k0, A1, k1, A2, k2, A3, k3, by simp only [upd, List.setIfInBounds_toArray, List.set_cons_zero, List.set_cons_succ], hHeld, HVV.out, HOO.out, LM.out⟩
    · go_simp
      obtain ⟨v13, hw⟩ : ∃ u, u = u0.alloc (.cells #[.slice none 0 0, .slice none 0 0, .slice none 0 0, .slice none 0 0] 29) := ⟨_, rfl⟩
      rw [← hw]
      have hb : Below u0.heap.size u0 v13 := by rw [hw]; exact al_below _ _
      have KM : Hid (Bk v13 u0.heap.size 29 [.slice none 0 0, .slice none 0 0, .slice none 0 0, .slice none 0 0]) := Lib.hid (by rw [hw]; exact Bk.new _ _ _)
      have LM : Hid (w6.heap.size ≤ u0.heap.size) := Lib.hid hHeld.size
      clear hw
      have hS : Below w6.heap.size w6 v13 := hHeld.trans (hb.mono hHeld.size)
      clear hb
      refine hK.out _ _ hS (fun hHeld2 => ?_)
      clear hK K hHeld hS
      have hHeld := hHeld2
      clear hHeld2
      try simp only [Act.put, List.setIfInBounds_toArray, List.set_cons_zero, List.set_cons_succ]
      refine wpAnyH_ready (rs := [2]) (by kernel_rfl) (by simp) ?_
      refine AllReadyH.cons (o := _) (by simp only [List.getElem?_toArray, List.getElem?_cons_succ, List.getElem?_cons_zero]; rfl) (fun K hK => ?_) (AllReadyH.nil)
      go_simp
      (with_reducible refine (HF8.out _ hHeld).mono ?_)
      rintro e v14 ⟨he, hb⟩; obtain rfl := he
      replace KM := Lib.hid (KM.out.below hb KM.out.lt)
      have hS : Below w6.heap.size w6 v14 := hHeld.trans (hb.mono hHeld.size)
      clear hb
      go_simp
      refine hK.out _ _ hS (fun hHeld2 => ?_)
      clear hK K hHeld hS
      have hHeld := hHeld2
      clear hHeld2
      try simp only [Act.put, List.setIfInBounds_toArray, List.set_cons_zero, List.set_cons_succ]
      refine wpAnyH_ready (rs := [3]) (by kernel_rfl) (by simp) ?_
      refine AllReadyH.cons (o := _) (by simp only [List.getElem?_toArray, List.getElem?_cons_succ, List.getElem?_cons_zero]; rfl) (fun K hK => ?_) (AllReadyH.nil)
      go_simp
      (with_reducible refine (HT8.out _ hHeld).mono ?_)
      rintro e v15 hh
      obtain ⟨A0, k0, A1, k1, A2, k2, A3, k3, he, ho, hb⟩ := hh.got HN0.out HN1.out HN2.out HN3.out
      obtain rfl := he
      replace KM := Lib.hid (KM.out.below hb KM.out.lt)
      have KO := Lib.hid (ho.base hHeld.size)
      clear ho hh
      have hS : Below w6.heap.size w6 v15 := hHeld.trans (hb.mono hHeld.size)
      clear hb
      go_simp
      refine hK.out _ _ hS (fun hHeld2 => ?_)
      clear hK K hHeld hS
      have hHeld := hHeld2
      clear hHeld2
      try simp only [Act.put, List.setIfInBounds_toArray, List.set_cons_zero, List.set_cons_succ]
      refine wpAnyH_take (i := 4) (oi := _) (v := ?_) (by simp only [List.getElem?_toArray, List.getElem?_cons_succ, List.getElem?_cons_zero]; rfl) (by kernel_rfl) (by kernel_rfl) (by kernel_rfl) (by exact fun _ _ _ h => h) (Or.inl ⟨by rfl, ?hyx154⟩) (by exact hHeld) ?rex154
      case hyx154 => (intro u hu; clear hu; go_simp <;> with_reducible rfl)
      try simp only [Act.put, List.setIfInBounds_toArray, List.set_cons_zero, List.set_cons_succ]
      refine wpAnyH_take (i := 5) (oi := _) (v := ?_) (by simp only [List.getElem?_toArray, List.getElem?_cons_succ, List.getElem?_cons_zero]; rfl) (by kernel_rfl) (by kernel_rfl) (by kernel_rfl) (by exact fun _ _ _ h => h) (Or.inl ⟨by rfl, ?hyx155⟩) (by exact hHeld) ?rex155
      case hyx155 => (intro u hu; clear hu; go_simp <;> with_reducible rfl)
      try simp only [Act.put, List.setIfInBounds_toArray, List.set_cons_zero, List.set_cons_succ]
      refine wpAnyH_take (i := 6) (oi := _) (v := ?_) (by simp only [List.getElem?_toArray, List.getElem?_cons_succ, List.getElem?_cons_zero]; rfl) (by kernel_rfl) (by kernel_rfl) (by kernel_rfl) (by exact fun _ _ _ h => h) (Or.inl ⟨by rfl, ?hyx156⟩) (by exact hHeld) ?rex156
      case hyx156 => (intro u hu; clear hu; go_simp <;> with_reducible rfl)
      try simp only [Act.put, List.setIfInBounds_toArray, List.set_cons_zero, List.set_cons_succ]
      obtain ⟨r0, r1, r2, r3⟩ := four_cells KM.out
      obtain ⟨f0, f1, f2, f3⟩ := four_frozen KM.out
      have hlz := KM.out.lt
      refine wpAnyH_ready (rs := [8]) (by kernel_rfl) (by simp) ?_
      refine AllReadyH.cons (o := _) (by simp only [List.getElem?_toArray, List.getElem?_cons_succ, List.getElem?_cons_zero]; rfl) (fun K hK => ?_) AllReadyH.nil
      go_simp
      change K _ (put4 v15 u0.heap.size (.slice A0 0 k0) (.slice A1 0 k1) (.slice A2 0 k2) (.slice A3 0 k3))
      have hS : Below w6.heap.size w6 (put4 v15 u0.heap.size (.slice A0 0 k0) (.slice A1 0 k1) (.slice A2 0 k2) (.slice A3 0 k3)) := put4_below hHeld LM.out _ _ _ _
      have HVV := Lib.hid (put4_bk (a0 := .slice A0 0 k0) (a1 := .slice A1 0 k1) (a2 := .slice A2 0 k2) (a3 := .slice A3 0 k3) KM.out)
      have HOO := Lib.hid (ownM_set (((KM.out.set 0 (.slice A0 0 k0)).set 1 (.slice A1 0 k1)).set 2 (.slice A2 0 k2)) (ownM_set ((KM.out.set 0 (.slice A0 0 k0)).set 1 (.slice A1 0 k1)) (ownM_set (KM.out.set 0 (.slice A0 0 k0)) (ownM_set KM.out KO.out 0 (.slice A0 0 k0)) 1 (.slice A1 0 k1)) 2 (.slice A2 0 k2)) 3 (.slice A3 0 k3))
      refine hK.out _ _ hS (fun hHeld2 => ?_)
      clear hK K hS hHeld r0 r1 r2 r3 f0 f1 f2 f3 hlz
      have hHeld := hHeld2
      clear hHeld2
      try simp only [Act.put, List.setIfInBounds_toArray, List.set_cons_zero, List.set_cons_succ]
      refine wpAnyH_take (i := 9) (oi := _) (v := ?_) (by simp only [List.getElem?_toArray, List.getElem?_cons_succ, List.getElem?_cons_zero]; rfl) (by kernel_rfl) (by kernel_rfl) (by kernel_rfl) (by exact fun _ _ _ h => h) (Or.inl ⟨by rfl, ?hyx179⟩) (by exact hHeld) ?rex179
      case hyx179 => (intro u hu; clear hu; go_simp <;> with_reducible rfl)
      try simp only [Act.put, List.setIfInBounds_toArray, List.set_cons_zero, List.set_cons_succ]
      refine wpAnyH_done (by kernel_rfl) ?_ _
      exact ⟨u0.heap.size, A0, k0, A1, k1, A2, k2, A3, k3, by simp only [upd, List.setIfInBounds_toArray, List.set_cons_zero, List.set_cons_succ], hHeld, HVV.out, HOO.out, LM.out⟩
  rintro a u8 ⟨M2, A0, k0, A1, k1, A2, k2, A3, k3, rfl, hb8, hv8, ho8, hm8⟩
  dsimp only
  simp only [upd, List.setIfInBounds_toArray, List.set_cons_zero, List.set_cons_succ]
  replace HB := Lib.hid (HB.out.trans (hb8.mono HB.out.size))
  replace HG := Lib.hid (HG.out.below hb8 HG.out.lt)
  replace HTL := Lib.hid (HTL.out.later hb8)
  have HV2 := Lib.hid hv8
  have HO2 := Lib.hid ho8
  clear hb8 hv8 ho8 hm8 HF8 HT8 g0 g1 g2 g3 q0 q1 q2 q3 hltg hltm y0 y1 y2 y3 hlty HL HT1 HO1 HM HV1
  obtain ⟨g0, g1, g2, g3⟩ := four_cells HG.out
  obtain ⟨x0, x1, x2, x3⟩ := four_cells HV2.out
  go_wp2_with (first
    | (go_at_call 13; (with_reducible refine (HLAY2.out _ _ _ _ _ _ _ _ _ HO2.out.lies).mono ?_); rintro e w1 hh; obtain ⟨C2, c2, L2, he, -, hcap, -, hsa, hb⟩ := hh.got; rw [List.length_nil] at he hcap; obtain rfl := he; replace HB := Lib.hid (HB.out.trans (hb.mono HB.out.size)); replace HG := Lib.hid (HG.out.below hb HG.out.lt); replace HTL := Lib.hid (HTL.out.later hb); replace HV2 := Lib.hid (HV2.out.below hb HV2.out.lt); replace HO2 := Lib.hid (HO2.out.below hb); have HT2 := Lib.hid hsa; clear hsa hcap; clear g0 g1 g2 g3 x0 x1 x2 x3 hb; obtain ⟨g0, g1, g2, g3⟩ := four_cells HG.out; obtain ⟨x0, x1, x2, x3⟩ := four_cells HV2.out)
    | (go_at_call 15; (with_reducible refine (HSAME2.out _ _ _ _ _ _ _ _ _ HO2.out.lies).mono ?_); rintro e w2 ⟨he, hb⟩; obtain rfl := he; replace HB := Lib.hid (HB.out.trans (hb.mono HB.out.size)); replace HG := Lib.hid (HG.out.below hb HG.out.lt); replace HTL := Lib.hid (HTL.out.later hb); replace HV2 := Lib.hid (HV2.out.below hb HV2.out.lt); replace HO2 := Lib.hid (HO2.out.below hb); clear g0 g1 g2 g3 x0 x1 x2 x3 hb; obtain ⟨g0, g1, g2, g3⟩ := four_cells HG.out; obtain ⟨x0, x1, x2, x3⟩ := four_cells HV2.out))
  go_ret
  exact ⟨rfl, HB.out⟩
set_option maxRecDepth 100000 in
set_option maxHeartbeats 6400000 in
theorem back_ny (j i g p : Int) (m : Meta.Met) (ho : Okm m) (M0 M1 M2 M3 : Option Addr) (r0 e0 r1 e1 r2 e2 r3 e3 : Nat) (l : List (List UInt8)) (A : Option Addr) (n c : Nat) (L : List Sc) (w : World) (h0 : m.rows.length = r0) (h1 : m.own.length = r1) (h2 : m.used.length = r2) (h3 : m.ino.length = r3) (hl : Lies w w.heap.size ⟨M0, e0, M1, e1, M2, e2, M3, e3⟩ m) (hln : l.length = n) (hc : n ≤ c) (hs : SecsAt w w.heap.size A L l) (hsm : smallB r0 r1 r2 r3 = true) (hR : ¬ Meta.Right ⟨j, i, g, p⟩ m) (mc : Meta.Met) (hrc : Meta.Right ⟨j, i, g, p⟩ mc) (hoc : Okm mc) (hsc : secs mc = l.take (fewN 50 l)) (hT : takM ⟨j, i, g, p⟩ (l.take (fewN 50 l)) = (mc, 0)) :
    Calls Try.prog 5 #[.agg #[.int .i64 j, .int .i64 i, .int .i64 g, .int .i64 p], .agg #[.slice M0 r0 e0, .slice M1 r1 e1, .slice M2 r2 e2, .slice M3 r3 e3], .slice A n c] w fun e w' => e = .returned (.bool true) ∧ Below w.heap.size w w' := by
  obtain ⟨s0, s1, s2, s3⟩ := small_yes hsm
  have HS : Hid (∀ u : World, Calls Try.prog 10 #[.agg #[.slice M0 r0 e0, .slice M1 r1 e1, .slice M2 r2 e2, .slice M3 r3 e3]] u fun e w' => e = .returned (.bool true) ∧ Below u.heap.size u w') := Lib.hid (fun u => by
    have := small_in M0 M1 M2 M3 r0 e0 r1 e1 r2 e2 r3 e3 u
    rwa [hsm] at this)
  have hfl := fewN_le 50 l
  obtain ⟨k, hk⟩ : ∃ k, fewN 50 l = k := ⟨_, rfl⟩
  rw [hk] at hfl hT
  have hkl : (l.take k).length = k := by rw [List.length_take]; omega
  obtain ⟨W, hW⟩ : ∃ W, W = (w.alloc (.cells #[.int .i64 j, .int .i64 i, .int .i64 g, .int .i64 p] 23)).alloc (.cells #[.slice M0 r0 e0, .slice M1 r1 e1, .slice M2 r2 e2, .slice M3 r3 e3] 29) := ⟨_, rfl⟩
  have hbW : Below w.heap.size w W := by rw [hW]; exact (Below.refl _ _).alloc (Nat.le_refl _) _ |>.alloc (by simp) _
  have hG : Bk W w.heap.size 23 [.int .i64 j, .int .i64 i, .int .i64 g, .int .i64 p] := by rw [hW]; exact (geo_box w j i g p).below (al_below _ _) (by simp)
  have hM : Bk W (w.heap.size + 1) 29 [.slice M0 r0 e0, .slice M1 r1 e1, .slice M2 r2 e2, .slice M3 r3 e3] := by
    rw [hW]
    have := Bk.new (w.alloc (.cells #[.int .i64 j, .int .i64 i, .int .i64 g, .int .i64 p] 23)) 29 [.slice M0 r0 e0, .slice M1 r1 e1, .slice M2 r2 e2, .slice M3 r3 e3]
    simpa using this
  have HG := Lib.hid hG
  have HM := Lib.hid hM
  have HB := Lib.hid hbW
  have HW := Lib.hid hW
  have HL := Lib.hid (hl.later hbW)
  have HTL := Lib.hid (hs.later hbW)
  obtain ⟨g0, g1, g2, g3⟩ := four_cells hG
  obtain ⟨q0, q1, q2, q3⟩ := four_cells hM
  have hltg := hG.lt
  have hltm := hM.lt
  clear hbW hG hM hW hl hs
  obtain ⟨z1, z2, z3, z4, z5⟩ := takM_ok ⟨j, i, g, p⟩ []
  obtain ⟨mb, hmb⟩ : ∃ mb, (takM ⟨j, i, g, p⟩ []).1 = mb := ⟨_, rfl⟩
  obtain ⟨eb, heb⟩ : ∃ eb, (takM ⟨j, i, g, p⟩ []).2 = eb := ⟨_, rfl⟩
  have hbr : takM ⟨j, i, g, p⟩ [] = (mb, eb) := by rw [← hmb, ← heb]
  obtain ⟨b0, hb0⟩ : ∃ q, mb.rows.length = q := ⟨_, rfl⟩
  obtain ⟨b1, hb1⟩ : ∃ q, mb.own.length = q := ⟨_, rfl⟩
  obtain ⟨b2, hb2⟩ : ∃ q, mb.used.length = q := ⟨_, rfl⟩
  obtain ⟨b3, hb3⟩ : ∃ q, mb.ino.length = q := ⟨_, rfl⟩
  have HP0 := Lib.hid hb0
  have HP1 := Lib.hid hb1
  have HP2 := Lib.hid hb2
  have HP3 := Lib.hid hb3
  have HLAY : Hid (∀ u : World, Lies u u.heap.size ⟨M0, e0, M1, e1, M2, e2, M3, e3⟩ m → Calls Try.prog 13 #[.agg #[.int .i64 j, .int .i64 i, .int .i64 g, .int .i64 p], .agg #[.slice M0 r0 e0, .slice M1 r1 e1, .slice M2 r2 e2, .slice M3 r3 e3]] u fun e w' => HandsL u ([], 1) e w') := Lib.hid (fun u hl => by
    have := lay_in j i g p m ho M0 M1 M2 M3 r0 e0 r1 e1 r2 e2 r3 e3 u h0 h1 h2 h3 hl (by omega)
    rwa [lay_no hR] at this)
  have HTAKE1 : Hid (∀ (u : World) (A : Option Addr) (c : Nat) (L : List Sc), SecsAt u u.heap.size A L [] → 0 ≤ c → Calls Try.prog 19 #[.agg #[.int .i64 j, .int .i64 i, .int .i64 g, .int .i64 p], .slice A 0 c] u fun e w' => HandsM u (mb, eb) e w') := Lib.hid (fun u A c L hs hc => by
    have := ptake_any ⟨j, i, g, p⟩ [] A 0 c L u rfl hs (by omega) hc
    rwa [hbr] at this)
  have HRIGHT : Hid (∀ u : World, Lies u u.heap.size ⟨M0, e0, M1, e1, M2, e2, M3, e3⟩ m → Calls Try.prog 16 #[.agg #[.int .i64 j, .int .i64 i, .int .i64 g, .int .i64 p], .agg #[.slice M0 r0 e0, .slice M1 r1 e1, .slice M2 r2 e2, .slice M3 r3 e3]] u fun e w' => e = .returned (.bool false) ∧ Below u.heap.size u w') := Lib.hid (fun u hl => by
    have := right_in j i g p m ho M0 M1 M2 M3 r0 e0 r1 e1 r2 e2 r3 e3 u h0 h1 h2 h3 hl (by omega)
    rwa [rightB_no hR] at this)
  have HFEW : Hid (∀ u : World, SecsAt u u.heap.size A L l → Calls Try.prog 20 #[.slice A n c] u fun e w' => e = .returned (.slice A k c) ∧ Below u.heap.size u w') := Lib.hid (fun u hu => by
    have := few_any l A n c L u hln hu hc
    rwa [hk] at this)
  have HTAKE2 : Hid (∀ u : World, SecsAt u u.heap.size A L l → Calls Try.prog 19 #[.agg #[.int .i64 j, .int .i64 i, .int .i64 g, .int .i64 p], .slice A k c] u fun e w' => HandsM u (mc, 0) e w') := Lib.hid (fun u hu => by
    have := ptake_any ⟨j, i, g, p⟩ (l.take k) A k c (L.take k) u hkl (hu.few k) (by omega) (by omega)
    rwa [hT] at this)
  obtain ⟨n0, hn0⟩ : ∃ q, mc.rows.length = q := ⟨_, rfl⟩
  obtain ⟨n1, hn1⟩ : ∃ q, mc.own.length = q := ⟨_, rfl⟩
  obtain ⟨n2, hn2⟩ : ∃ q, mc.used.length = q := ⟨_, rfl⟩
  obtain ⟨n3, hn3⟩ : ∃ q, mc.ino.length = q := ⟨_, rfl⟩
  have HN0 := Lib.hid hn0
  have HN1 := Lib.hid hn1
  have HN2 := Lib.hid hn2
  have HN3 := Lib.hid hn3
  have HLAY2 : Hid (∀ (u : World) (A0 A1 A2 A3 : Option Addr) (k0 k1 k2 k3 : Nat), Lies u u.heap.size ⟨A0, k0, A1, k1, A2, k2, A3, k3⟩ mc → Calls Try.prog 13 #[.agg #[.int .i64 j, .int .i64 i, .int .i64 g, .int .i64 p], .agg #[.slice A0 n0 k0, .slice A1 n1 k1, .slice A2 n2 k2, .slice A3 n3 k3]] u fun e w' => HandsL u (l.take k, 0) e w') := Lib.hid (fun u A0 A1 A2 A3 k0 k1 k2 k3 hl => by
    have := lay_in j i g p mc hoc A0 A1 A2 A3 n0 k0 n1 k1 n2 k2 n3 k3 u hn0 hn1 hn2 hn3 hl (by have := hrc.own64; have := hrc.ulen; have := hrc.ino64; omega)
    rwa [lay_yes hrc, hsc, hk] at this)
  have HKL := Lib.hid hkl
  have HSEC : Hid (∀ (u : World) (A1 : Option Addr) (d : Nat) (L1 : List Sc), SecsAt u u.heap.size A1 L1 (l.take k) → SecsAt u u.heap.size A L l → Calls Try.prog 18 #[.slice A1 k d, .slice A k c] u fun e w' => e = .returned (.bool true) ∧ Below u.heap.size u w') := Lib.hid (fun u A1 d L1 h1 h2 => by
    have := rsec_any (l.take k) (l.take k) A1 A k k d c L1 (L.take k) u hkl hkl h1 (h2.few k) (by omega)
    rwa [show (l.take k == l.take k) = true by simp] at this)
  clear hn0 hn1 hn2 hn3 hrc hoc hsc
  clear hsm ho h0 h1 h2 h3 hln hc hR hT hfl hk hkl s0 s1 s2 s3 z1 z2 z3 z4 z5 hmb heb hbr hb0 hb1 hb2 hb3
  go_enter Try.func5, Try.ntmps5
  go_upto_region 1 with fail
  rw [← HW.out]
  go_upto_region 8 with (first
    | (go_at_call 9; (with_reducible refine (shown_any _).mono ?_); rintro e w1 ⟨he, hb⟩; obtain rfl := he; replace HB := Lib.hid (HB.out.trans (hb.mono HB.out.size)); replace HG := Lib.hid (HG.out.below hb HG.out.lt); replace HM := Lib.hid (HM.out.below hb HM.out.lt); replace HL := Lib.hid (HL.out.later hb); replace HTL := Lib.hid (HTL.out.later hb); clear g0 g1 g2 g3 q0 q1 q2 q3 hltg hltm hb; obtain ⟨g0, g1, g2, g3⟩ := four_cells HG.out; have hltg := HG.out.lt; obtain ⟨q0, q1, q2, q3⟩ := four_cells HM.out; have hltm := HM.out.lt)
    | (go_at_call 10; (with_reducible refine (HS.out _).mono ?_); rintro e w2 ⟨he, hb⟩; obtain rfl := he; replace HB := Lib.hid (HB.out.trans (hb.mono HB.out.size)); replace HG := Lib.hid (HG.out.below hb HG.out.lt); replace HM := Lib.hid (HM.out.below hb HM.out.lt); replace HL := Lib.hid (HL.out.later hb); replace HTL := Lib.hid (HTL.out.later hb); clear g0 g1 g2 g3 q0 q1 q2 q3 hltg hltm hb; obtain ⟨g0, g1, g2, g3⟩ := four_cells HG.out; have hltg := HG.out.lt; obtain ⟨q0, q1, q2, q3⟩ := four_cells HM.out; have hltm := HM.out.lt)
    | (go_at_call 13; (with_reducible refine (HLAY.out _ HL.out).mono ?_); rintro e w3 hh; obtain ⟨C1, c1, L1, he, -, hcap, -, hsa, hb⟩ := hh.got; rw [List.length_nil] at he hcap; obtain rfl := he; replace HB := Lib.hid (HB.out.trans (hb.mono HB.out.size)); replace HG := Lib.hid (HG.out.below hb HG.out.lt); replace HM := Lib.hid (HM.out.below hb HM.out.lt); replace HL := Lib.hid (HL.out.later hb); replace HTL := Lib.hid (HTL.out.later hb); have HT1 := Lib.hid hsa; have HCAP := Lib.hid hcap; clear hsa hcap; clear g0 g1 g2 g3 q0 q1 q2 q3 hltg hltm hb; obtain ⟨g0, g1, g2, g3⟩ := four_cells HG.out; have hltg := HG.out.lt; obtain ⟨q0, q1, q2, q3⟩ := four_cells HM.out; have hltm := HM.out.lt)
    | (go_at_call 19; (with_reducible refine (HTAKE1.out _ _ _ _ HT1.out HCAP.out).mono ?_); rintro e w4 hh; obtain ⟨B0, d0, B1, d1, B2, d2, B3, d3, he, ho, hb⟩ := hh.got HP0.out HP1.out HP2.out HP3.out; obtain rfl := he; replace HB := Lib.hid (HB.out.trans (hb.mono HB.out.size)); replace HG := Lib.hid (HG.out.below hb HG.out.lt); replace HM := Lib.hid (HM.out.below hb HM.out.lt); replace HL := Lib.hid (HL.out.later hb); replace HTL := Lib.hid (HTL.out.later hb); replace HT1 := Lib.hid (HT1.out.later hb); have HO1 := Lib.hid ho; clear ho; clear g0 g1 g2 g3 q0 q1 q2 q3 hltg hltm hb; obtain ⟨g0, g1, g2, g3⟩ := four_cells HG.out; have hltg := HG.out.lt; obtain ⟨q0, q1, q2, q3⟩ := four_cells HM.out; have hltm := HM.out.lt)
    | (go_at_call 16; have hal := al_below w4 (.cells #[.slice B0 b0 d0, .slice B1 b1 d1, .slice B2 b2 d2, .slice B3 b3 d3] 29); replace HB := Lib.hid (HB.out.trans (hal.mono HB.out.size)); replace HG := Lib.hid (HG.out.below hal HG.out.lt); replace HM := Lib.hid (HM.out.below hal HM.out.lt); replace HL := Lib.hid (HL.out.later hal); replace HTL := Lib.hid (HTL.out.later hal); replace HT1 := Lib.hid (HT1.out.later hal); replace HO1 := Lib.hid (HO1.out.below hal); have HV1 := Lib.hid (Bk.new w4 29 [.slice B0 b0 d0, .slice B1 b1 d1, .slice B2 b2 d2, .slice B3 b3 d3]); clear hal; (with_reducible refine (HRIGHT.out _ HL.out).mono ?_); rintro e w5 ⟨he, hb⟩; obtain rfl := he; replace HB := Lib.hid (HB.out.trans (hb.mono HB.out.size)); replace HG := Lib.hid (HG.out.below hb HG.out.lt); replace HM := Lib.hid (HM.out.below hb HM.out.lt); replace HL := Lib.hid (HL.out.later hb); replace HTL := Lib.hid (HTL.out.later hb); replace HT1 := Lib.hid (HT1.out.later hb); replace HO1 := Lib.hid (HO1.out.below hb); replace HV1 := Lib.hid (HV1.out.below hb HV1.out.lt); clear g0 g1 g2 g3 q0 q1 q2 q3 hltg hltm hb; obtain ⟨g0, g1, g2, g3⟩ := four_cells HG.out; have hltg := HG.out.lt; obtain ⟨q0, q1, q2, q3⟩ := four_cells HM.out; have hltm := HM.out.lt; obtain ⟨y0, y1, y2, y3⟩ := four_cells HV1.out; have hlty := HV1.out.lt))
  have HF8 := Lib.hid (fun (u : World) (hu : Below w5.heap.size w5 u) => HFEW.out u (HTL.out.later hu))
  have HT8 := Lib.hid (fun (u : World) (hu : Below w5.heap.size w5 u) => HTAKE2.out u (HTL.out.later hu))
  refine wp_cutA (fun a0 a u => ∃ M A0 k0 A1 k1 A2 k2 A3 k3, a = { tmps := upd a0.tmps [(63, .agg #[.int .i64 j, .int .i64 i, .int .i64 g, .int .i64 p]), (64, .slice A n c), (65, .slice A k c), (66, .tuple #[.agg #[.slice A0 n0 k0, .slice A1 n1 k1, .slice A2 n2 k2, .slice A3 n3 k3], .int .i64 0]), (62, .tuple #[.agg #[.slice A0 n0 k0, .slice A1 n1 k1, .slice A2 n2 k2, .slice A3 n3 k3], .int .i64 0]), (67, .agg #[.slice A0 n0 k0, .slice A1 n1 k1, .slice A2 n2 k2, .slice A3 n3 k3]), (68, .int .i64 0), (12, .pointer (some ⟨M, 0, none⟩)), (13, .int .i64 0)], defers := a0.defers } ∧ Below w5.heap.size w5 u ∧ Bk u M 29 [.slice A0 n0 k0, .slice A1 n1 k1, .slice A2 n2 k2, .slice A3 n3 k3] ∧ OwnM u w5.heap.size ⟨A0, k0, A1, k1, A2, k2, A3, k3⟩ mc ∧ w5.heap.size ≤ M) ?_ ?_
  · clear g0 g1 g2 g3 q0 q1 q2 q3 hltg hltm y0 y1 y2 y3 hlty HB HL HTL HT1 HO1 HM HV1
    have hS0 : Below w5.heap.size w5 w5.drew := (Below.refl _ _).drew
    refine wp_region_held_drew (S := fun u => Below w5.heap.size w5 u) (by kernel_rfl) hS0 (fun hHeld => ?_)
    refine wpAnyH_take (i := 0) (oi := _) (v := ?_) (by simp only [List.getElem?_toArray, List.getElem?_cons_zero]; rfl) (by kernel_rfl) (by kernel_rfl) (by kernel_rfl) (by exact fun _ _ _ h => h) (Or.inl ⟨by rfl, ?hyx00⟩) (by exact hHeld) ?rex00
    case hyx00 => (intro u hu; obtain ⟨g0, g1, g2, g3⟩ := four_cells (HG.out.below hu HG.out.lt); clear hu; go_simp <;> with_reducible rfl)
    try simp only [Act.put, List.setIfInBounds_toArray, List.set_cons_zero, List.set_cons_succ]
    refine wpAnyH_take (i := 1) (oi := _) (v := ?_) (by simp only [List.getElem?_toArray, List.getElem?_cons_succ, List.getElem?_cons_zero]; rfl) (by kernel_rfl) (by kernel_rfl) (by kernel_rfl) (by exact fun _ _ _ h => h) (Or.inl ⟨by rfl, ?hyx01⟩) (by exact hHeld) ?rex01
    case hyx01 => (intro u hu; obtain ⟨g0, g1, g2, g3⟩ := four_cells (HG.out.below hu HG.out.lt); clear hu; go_simp <;> with_reducible rfl)
    try simp only [Act.put, List.setIfInBounds_toArray, List.set_cons_zero, List.set_cons_succ]
    clear hS0
    generalize hu0 : w5.drew = u0 at *
    clear hu0
    refine wpAnyH_ready (rs := [2, 7]) (by kernel_rfl) (by simp) ?_
    refine AllReadyH.cons (o := _) (by simp only [List.getElem?_toArray, List.getElem?_cons_succ, List.getElem?_cons_zero]; rfl) (fun K hK => ?_) (AllReadyH.cons (o := _) (by simp only [List.getElem?_toArray, List.getElem?_cons_succ, List.getElem?_cons_zero]; rfl) (fun K hK => ?_) (AllReadyH.nil))
    · go_simp
      (with_reducible refine (HF8.out _ hHeld).mono ?_)
      rintro e v2 ⟨he, hb⟩; obtain rfl := he
      have hS : Below w5.heap.size w5 v2 := hHeld.trans (hb.mono hHeld.size)
      clear hb
      go_simp
      refine hK.out _ _ hS (fun hHeld2 => ?_)
      clear hK K hHeld hS
      have hHeld := hHeld2
      clear hHeld2
      try simp only [Act.put, List.setIfInBounds_toArray, List.set_cons_zero, List.set_cons_succ]
      refine wpAnyH_ready (rs := [3, 7]) (by kernel_rfl) (by simp) ?_
      refine AllReadyH.cons (o := _) (by simp only [List.getElem?_toArray, List.getElem?_cons_succ, List.getElem?_cons_zero]; rfl) (fun K hK => ?_) (AllReadyH.cons (o := _) (by simp only [List.getElem?_toArray, List.getElem?_cons_succ, List.getElem?_cons_zero]; rfl) (fun K hK => ?_) (AllReadyH.nil))
      · go_simp
        (with_reducible refine (HT8.out _ hHeld).mono ?_)
        rintro e v3 hh
        obtain ⟨A0, k0, A1, k1, A2, k2, A3, k3, he, ho, hb⟩ := hh.got HN0.out HN1.out HN2.out HN3.out
        obtain rfl := he
        have KO := Lib.hid (ho.base hHeld.size)
        clear ho hh
        have hS : Below w5.heap.size w5 v3 := hHeld.trans (hb.mono hHeld.size)
        clear hb
        go_simp
        refine hK.out _ _ hS (fun hHeld2 => ?_)
        clear hK K hHeld hS
        have hHeld := hHeld2
        clear hHeld2
        try simp only [Act.put, List.setIfInBounds_toArray, List.set_cons_zero, List.set_cons_succ]
        refine wpAnyH_take (i := 4) (oi := _) (v := ?_) (by simp only [List.getElem?_toArray, List.getElem?_cons_succ, List.getElem?_cons_zero]; rfl) (by kernel_rfl) (by kernel_rfl) (by kernel_rfl) (by exact fun _ _ _ h => h) (Or.inl ⟨by rfl, ?hyx34⟩) (by exact hHeld) ?rex34
        case hyx34 => (intro u hu; clear hu; go_simp <;> with_reducible rfl)
        try simp only [Act.put, List.setIfInBounds_toArray, List.set_cons_zero, List.set_cons_succ]
        refine wpAnyH_take (i := 5) (oi := _) (v := ?_) (by simp only [List.getElem?_toArray, List.getElem?_cons_succ, List.getElem?_cons_zero]; rfl) (by kernel_rfl) (by kernel_rfl) (by kernel_rfl) (by exact fun _ _ _ h => h) (Or.inl ⟨by rfl, ?hyx35⟩) (by exact hHeld) ?rex35
        case hyx35 => (intro u hu; clear hu; go_simp <;> with_reducible rfl)
        try simp only [Act.put, List.setIfInBounds_toArray, List.set_cons_zero, List.set_cons_succ]
        refine wpAnyH_take (i := 6) (oi := _) (v := ?_) (by simp only [List.getElem?_toArray, List.getElem?_cons_succ, List.getElem?_cons_zero]; rfl) (by kernel_rfl) (by kernel_rfl) (by kernel_rfl) (by exact fun _ _ _ h => h) (Or.inl ⟨by rfl, ?hyx36⟩) (by exact hHeld) ?rex36
        case hyx36 => (intro u hu; clear hu; go_simp <;> with_reducible rfl)
        try simp only [Act.put, List.setIfInBounds_toArray, List.set_cons_zero, List.set_cons_succ]
        refine wpAnyH_ready (rs := [7]) (by kernel_rfl) (by simp) ?_
        refine AllReadyH.cons (o := _) (by simp only [List.getElem?_toArray, List.getElem?_cons_succ, List.getElem?_cons_zero]; rfl) (fun K hK => ?_) (AllReadyH.nil)
        go_simp
        obtain ⟨v5, hw⟩ : ∃ u, u = v3.alloc (.cells #[.slice none 0 0, .slice none 0 0, .slice none 0 0, .slice none 0 0] 29) := ⟨_, rfl⟩
        rw [← hw]
        have hb : Below v3.heap.size v3 v5 := by rw [hw]; exact al_below _ _
        replace KO := Lib.hid (KO.out.below hb)
        have KM : Hid (Bk v5 v3.heap.size 29 [.slice none 0 0, .slice none 0 0, .slice none 0 0, .slice none 0 0]) := Lib.hid (by rw [hw]; exact Bk.new _ _ _)
        have LM : Hid (w5.heap.size ≤ v3.heap.size) := Lib.hid hHeld.size
        clear hw
        have hS : Below w5.heap.size w5 v5 := hHeld.trans (hb.mono hHeld.size)
        clear hb
        refine hK.out _ _ hS (fun hHeld2 => ?_)
        clear hK K hHeld hS
        have hHeld := hHeld2
        clear hHeld2
        try simp only [Act.put, List.setIfInBounds_toArray, List.set_cons_zero, List.set_cons_succ]
        obtain ⟨r0, r1, r2, r3⟩ := four_cells KM.out
        obtain ⟨f0, f1, f2, f3⟩ := four_frozen KM.out
        have hlz := KM.out.lt
        refine wpAnyH_ready (rs := [8]) (by kernel_rfl) (by simp) ?_
        refine AllReadyH.cons (o := _) (by simp only [List.getElem?_toArray, List.getElem?_cons_succ, List.getElem?_cons_zero]; rfl) (fun K hK => ?_) AllReadyH.nil
        go_simp
        change K _ (put4 v5 v3.heap.size (.slice A0 n0 k0) (.slice A1 n1 k1) (.slice A2 n2 k2) (.slice A3 n3 k3))
        have hS : Below w5.heap.size w5 (put4 v5 v3.heap.size (.slice A0 n0 k0) (.slice A1 n1 k1) (.slice A2 n2 k2) (.slice A3 n3 k3)) := put4_below hHeld LM.out _ _ _ _
        have HVV := Lib.hid (put4_bk (a0 := .slice A0 n0 k0) (a1 := .slice A1 n1 k1) (a2 := .slice A2 n2 k2) (a3 := .slice A3 n3 k3) KM.out)
        have HOO := Lib.hid (ownM_set (((KM.out.set 0 (.slice A0 n0 k0)).set 1 (.slice A1 n1 k1)).set 2 (.slice A2 n2 k2)) (ownM_set ((KM.out.set 0 (.slice A0 n0 k0)).set 1 (.slice A1 n1 k1)) (ownM_set (KM.out.set 0 (.slice A0 n0 k0)) (ownM_set KM.out KO.out 0 (.slice A0 n0 k0)) 1 (.slice A1 n1 k1)) 2 (.slice A2 n2 k2)) 3 (.slice A3 n3 k3))
        refine hK.out _ _ hS (fun hHeld2 => ?_)
        clear hK K hS hHeld r0 r1 r2 r3 f0 f1 f2 f3 hlz
        have hHeld := hHeld2
        clear hHeld2
        try simp only [Act.put, List.setIfInBounds_toArray, List.set_cons_zero, List.set_cons_succ]
        refine wpAnyH_take (i := 9) (oi := _) (v := ?_) (by simp only [List.getElem?_toArray, List.getElem?_cons_succ, List.getElem?_cons_zero]; rfl) (by kernel_rfl) (by kernel_rfl) (by kernel_rfl) (by exact fun _ _ _ h => h) (Or.inl ⟨by rfl, ?hyx69⟩) (by exact hHeld) ?rex69
        case hyx69 => (intro u hu; clear hu; go_simp <;> with_reducible rfl)
        try simp only [Act.put, List.setIfInBounds_toArray, List.set_cons_zero, List.set_cons_succ]
        refine wpAnyH_done (by kernel_rfl) ?_ _
        exact ⟨v3.heap.size, A0, k0, A1, k1, A2, k2, A3, k3, by simp only [upd, List.setIfInBounds_toArray, List.set_cons_zero, List.set_cons_succ], hHeld, HVV.out, HOO.out, LM.out⟩
      · go_simp
        obtain ⟨v8, hw⟩ : ∃ u, u = v2.alloc (.cells #[.slice none 0 0, .slice none 0 0, .slice none 0 0, .slice none 0 0] 29) := ⟨_, rfl⟩
        rw [← hw]
        have hb : Below v2.heap.size v2 v8 := by rw [hw]; exact al_below _ _
        have KM : Hid (Bk v8 v2.heap.size 29 [.slice none 0 0, .slice none 0 0, .slice none 0 0, .slice none 0 0]) := Lib.hid (by rw [hw]; exact Bk.new _ _ _)
        have LM : Hid (w5.heap.size ≤ v2.heap.size) := Lib.hid hHeld.size
        clear hw
        have hS : Below w5.heap.size w5 v8 := hHeld.trans (hb.mono hHeld.size)
        clear hb
        refine hK.out _ _ hS (fun hHeld2 => ?_)
        clear hK K hHeld hS
        have hHeld := hHeld2
        clear hHeld2
        try simp only [Act.put, List.setIfInBounds_toArray, List.set_cons_zero, List.set_cons_succ]
        refine wpAnyH_ready (rs := [3]) (by kernel_rfl) (by simp) ?_
        refine AllReadyH.cons (o := _) (by simp only [List.getElem?_toArray, List.getElem?_cons_succ, List.getElem?_cons_zero]; rfl) (fun K hK => ?_) (AllReadyH.nil)
        go_simp
        (with_reducible refine (HT8.out _ hHeld).mono ?_)
        rintro e v9 hh
        obtain ⟨A0, k0, A1, k1, A2, k2, A3, k3, he, ho, hb⟩ := hh.got HN0.out HN1.out HN2.out HN3.out
        obtain rfl := he
        replace KM := Lib.hid (KM.out.below hb KM.out.lt)
        have KO := Lib.hid (ho.base hHeld.size)
        clear ho hh
        have hS : Below w5.heap.size w5 v9 := hHeld.trans (hb.mono hHeld.size)
        clear hb
        go_simp
        refine hK.out _ _ hS (fun hHeld2 => ?_)
        clear hK K hHeld hS
        have hHeld := hHeld2
        clear hHeld2
        try simp only [Act.put, List.setIfInBounds_toArray, List.set_cons_zero, List.set_cons_succ]
        refine wpAnyH_take (i := 4) (oi := _) (v := ?_) (by simp only [List.getElem?_toArray, List.getElem?_cons_succ, List.getElem?_cons_zero]; rfl) (by kernel_rfl) (by kernel_rfl) (by kernel_rfl) (by exact fun _ _ _ h => h) (Or.inl ⟨by rfl, ?hyx94⟩) (by exact hHeld) ?rex94
        case hyx94 => (intro u hu; clear hu; go_simp <;> with_reducible rfl)
        try simp only [Act.put, List.setIfInBounds_toArray, List.set_cons_zero, List.set_cons_succ]
        refine wpAnyH_take (i := 5) (oi := _) (v := ?_) (by simp only [List.getElem?_toArray, List.getElem?_cons_succ, List.getElem?_cons_zero]; rfl) (by kernel_rfl) (by kernel_rfl) (by kernel_rfl) (by exact fun _ _ _ h => h) (Or.inl ⟨by rfl, ?hyx95⟩) (by exact hHeld) ?rex95
        case hyx95 => (intro u hu; clear hu; go_simp <;> with_reducible rfl)
        try simp only [Act.put, List.setIfInBounds_toArray, List.set_cons_zero, List.set_cons_succ]
        refine wpAnyH_take (i := 6) (oi := _) (v := ?_) (by simp only [List.getElem?_toArray, List.getElem?_cons_succ, List.getElem?_cons_zero]; rfl) (by kernel_rfl) (by kernel_rfl) (by kernel_rfl) (by exact fun _ _ _ h => h) (Or.inl ⟨by rfl, ?hyx96⟩) (by exact hHeld) ?rex96
        case hyx96 => (intro u hu; clear hu; go_simp <;> with_reducible rfl)
        try simp only [Act.put, List.setIfInBounds_toArray, List.set_cons_zero, List.set_cons_succ]
        obtain ⟨r0, r1, r2, r3⟩ := four_cells KM.out
        obtain ⟨f0, f1, f2, f3⟩ := four_frozen KM.out
        have hlz := KM.out.lt
        refine wpAnyH_ready (rs := [8]) (by kernel_rfl) (by simp) ?_
        refine AllReadyH.cons (o := _) (by simp only [List.getElem?_toArray, List.getElem?_cons_succ, List.getElem?_cons_zero]; rfl) (fun K hK => ?_) AllReadyH.nil
        go_simp
        change K _ (put4 v9 v2.heap.size (.slice A0 n0 k0) (.slice A1 n1 k1) (.slice A2 n2 k2) (.slice A3 n3 k3))
        have hS : Below w5.heap.size w5 (put4 v9 v2.heap.size (.slice A0 n0 k0) (.slice A1 n1 k1) (.slice A2 n2 k2) (.slice A3 n3 k3)) := put4_below hHeld LM.out _ _ _ _
        have HVV := Lib.hid (put4_bk (a0 := .slice A0 n0 k0) (a1 := .slice A1 n1 k1) (a2 := .slice A2 n2 k2) (a3 := .slice A3 n3 k3) KM.out)
        have HOO := Lib.hid (ownM_set (((KM.out.set 0 (.slice A0 n0 k0)).set 1 (.slice A1 n1 k1)).set 2 (.slice A2 n2 k2)) (ownM_set ((KM.out.set 0 (.slice A0 n0 k0)).set 1 (.slice A1 n1 k1)) (ownM_set (KM.out.set 0 (.slice A0 n0 k0)) (ownM_set KM.out KO.out 0 (.slice A0 n0 k0)) 1 (.slice A1 n1 k1)) 2 (.slice A2 n2 k2)) 3 (.slice A3 n3 k3))
        refine hK.out _ _ hS (fun hHeld2 => ?_)
        clear hK K hS hHeld r0 r1 r2 r3 f0 f1 f2 f3 hlz
        have hHeld := hHeld2
        clear hHeld2
        try simp only [Act.put, List.setIfInBounds_toArray, List.set_cons_zero, List.set_cons_succ]
        refine wpAnyH_take (i := 9) (oi := _) (v := ?_) (by simp only [List.getElem?_toArray, List.getElem?_cons_succ, List.getElem?_cons_zero]; rfl) (by kernel_rfl) (by kernel_rfl) (by kernel_rfl) (by exact fun _ _ _ h => h) (Or.inl ⟨by rfl, ?hyx119⟩) (by exact hHeld) ?rex119
        case hyx119 => (intro u hu; clear hu; go_simp <;> with_reducible rfl)
        try simp only [Act.put, List.setIfInBounds_toArray, List.set_cons_zero, List.set_cons_succ]
        refine wpAnyH_done (by kernel_rfl) ?_ _
        exact ⟨v2.heap.size, A0, k0, A1, k1, A2, k2, A3, k3, by simp only [upd, List.setIfInBounds_toArray, List.set_cons_zero, List.set_cons_succ], hHeld, HVV.out, HOO.out, LM.out⟩
    · go_simp
      obtain ⟨v13, hw⟩ : ∃ u, u = u0.alloc (.cells #[.slice none 0 0, .slice none 0 0, .slice none 0 0, .slice none 0 0] 29) := ⟨_, rfl⟩
      rw [← hw]
      have hb : Below u0.heap.size u0 v13 := by rw [hw]; exact al_below _ _
      have KM : Hid (Bk v13 u0.heap.size 29 [.slice none 0 0, .slice none 0 0, .slice none 0 0, .slice none 0 0]) := Lib.hid (by rw [hw]; exact Bk.new _ _ _)
      have LM : Hid (w5.heap.size ≤ u0.heap.size) := Lib.hid hHeld.size
      clear hw
      have hS : Below w5.heap.size w5 v13 := hHeld.trans (hb.mono hHeld.size)
      clear hb
      refine hK.out _ _ hS (fun hHeld2 => ?_)
      clear hK K hHeld hS
      have hHeld := hHeld2
      clear hHeld2
      try simp only [Act.put, List.setIfInBounds_toArray, List.set_cons_zero, List.set_cons_succ]
      refine wpAnyH_ready (rs := [2]) (by kernel_rfl) (by simp) ?_
      refine AllReadyH.cons (o := _) (by simp only [List.getElem?_toArray, List.getElem?_cons_succ, List.getElem?_cons_zero]; rfl) (fun K hK => ?_) (AllReadyH.nil)
      go_simp
      (with_reducible refine (HF8.out _ hHeld).mono ?_)
      rintro e v14 ⟨he, hb⟩; obtain rfl := he
      replace KM := Lib.hid (KM.out.below hb KM.out.lt)
      have hS : Below w5.heap.size w5 v14 := hHeld.trans (hb.mono hHeld.size)
      clear hb
      go_simp
      refine hK.out _ _ hS (fun hHeld2 => ?_)
      clear hK K hHeld hS
      have hHeld := hHeld2
      clear hHeld2
      try simp only [Act.put, List.setIfInBounds_toArray, List.set_cons_zero, List.set_cons_succ]
      refine wpAnyH_ready (rs := [3]) (by kernel_rfl) (by simp) ?_
      refine AllReadyH.cons (o := _) (by simp only [List.getElem?_toArray, List.getElem?_cons_succ, List.getElem?_cons_zero]; rfl) (fun K hK => ?_) (AllReadyH.nil)
      go_simp
      (with_reducible refine (HT8.out _ hHeld).mono ?_)
      rintro e v15 hh
      obtain ⟨A0, k0, A1, k1, A2, k2, A3, k3, he, ho, hb⟩ := hh.got HN0.out HN1.out HN2.out HN3.out
      obtain rfl := he
      replace KM := Lib.hid (KM.out.below hb KM.out.lt)
      have KO := Lib.hid (ho.base hHeld.size)
      clear ho hh
      have hS : Below w5.heap.size w5 v15 := hHeld.trans (hb.mono hHeld.size)
      clear hb
      go_simp
      refine hK.out _ _ hS (fun hHeld2 => ?_)
      clear hK K hHeld hS
      have hHeld := hHeld2
      clear hHeld2
      try simp only [Act.put, List.setIfInBounds_toArray, List.set_cons_zero, List.set_cons_succ]
      refine wpAnyH_take (i := 4) (oi := _) (v := ?_) (by simp only [List.getElem?_toArray, List.getElem?_cons_succ, List.getElem?_cons_zero]; rfl) (by kernel_rfl) (by kernel_rfl) (by kernel_rfl) (by exact fun _ _ _ h => h) (Or.inl ⟨by rfl, ?hyx154⟩) (by exact hHeld) ?rex154
      case hyx154 => (intro u hu; clear hu; go_simp <;> with_reducible rfl)
      try simp only [Act.put, List.setIfInBounds_toArray, List.set_cons_zero, List.set_cons_succ]
      refine wpAnyH_take (i := 5) (oi := _) (v := ?_) (by simp only [List.getElem?_toArray, List.getElem?_cons_succ, List.getElem?_cons_zero]; rfl) (by kernel_rfl) (by kernel_rfl) (by kernel_rfl) (by exact fun _ _ _ h => h) (Or.inl ⟨by rfl, ?hyx155⟩) (by exact hHeld) ?rex155
      case hyx155 => (intro u hu; clear hu; go_simp <;> with_reducible rfl)
      try simp only [Act.put, List.setIfInBounds_toArray, List.set_cons_zero, List.set_cons_succ]
      refine wpAnyH_take (i := 6) (oi := _) (v := ?_) (by simp only [List.getElem?_toArray, List.getElem?_cons_succ, List.getElem?_cons_zero]; rfl) (by kernel_rfl) (by kernel_rfl) (by kernel_rfl) (by exact fun _ _ _ h => h) (Or.inl ⟨by rfl, ?hyx156⟩) (by exact hHeld) ?rex156
      case hyx156 => (intro u hu; clear hu; go_simp <;> with_reducible rfl)
      try simp only [Act.put, List.setIfInBounds_toArray, List.set_cons_zero, List.set_cons_succ]
      obtain ⟨r0, r1, r2, r3⟩ := four_cells KM.out
      obtain ⟨f0, f1, f2, f3⟩ := four_frozen KM.out
      have hlz := KM.out.lt
      refine wpAnyH_ready (rs := [8]) (by kernel_rfl) (by simp) ?_
      refine AllReadyH.cons (o := _) (by simp only [List.getElem?_toArray, List.getElem?_cons_succ, List.getElem?_cons_zero]; rfl) (fun K hK => ?_) AllReadyH.nil
      go_simp
      change K _ (put4 v15 u0.heap.size (.slice A0 n0 k0) (.slice A1 n1 k1) (.slice A2 n2 k2) (.slice A3 n3 k3))
      have hS : Below w5.heap.size w5 (put4 v15 u0.heap.size (.slice A0 n0 k0) (.slice A1 n1 k1) (.slice A2 n2 k2) (.slice A3 n3 k3)) := put4_below hHeld LM.out _ _ _ _
      have HVV := Lib.hid (put4_bk (a0 := .slice A0 n0 k0) (a1 := .slice A1 n1 k1) (a2 := .slice A2 n2 k2) (a3 := .slice A3 n3 k3) KM.out)
      have HOO := Lib.hid (ownM_set (((KM.out.set 0 (.slice A0 n0 k0)).set 1 (.slice A1 n1 k1)).set 2 (.slice A2 n2 k2)) (ownM_set ((KM.out.set 0 (.slice A0 n0 k0)).set 1 (.slice A1 n1 k1)) (ownM_set (KM.out.set 0 (.slice A0 n0 k0)) (ownM_set KM.out KO.out 0 (.slice A0 n0 k0)) 1 (.slice A1 n1 k1)) 2 (.slice A2 n2 k2)) 3 (.slice A3 n3 k3))
      refine hK.out _ _ hS (fun hHeld2 => ?_)
      clear hK K hS hHeld r0 r1 r2 r3 f0 f1 f2 f3 hlz
      have hHeld := hHeld2
      clear hHeld2
      try simp only [Act.put, List.setIfInBounds_toArray, List.set_cons_zero, List.set_cons_succ]
      refine wpAnyH_take (i := 9) (oi := _) (v := ?_) (by simp only [List.getElem?_toArray, List.getElem?_cons_succ, List.getElem?_cons_zero]; rfl) (by kernel_rfl) (by kernel_rfl) (by kernel_rfl) (by exact fun _ _ _ h => h) (Or.inl ⟨by rfl, ?hyx179⟩) (by exact hHeld) ?rex179
      case hyx179 => (intro u hu; clear hu; go_simp <;> with_reducible rfl)
      try simp only [Act.put, List.setIfInBounds_toArray, List.set_cons_zero, List.set_cons_succ]
      refine wpAnyH_done (by kernel_rfl) ?_ _
      exact ⟨u0.heap.size, A0, k0, A1, k1, A2, k2, A3, k3, by simp only [upd, List.setIfInBounds_toArray, List.set_cons_zero, List.set_cons_succ], hHeld, HVV.out, HOO.out, LM.out⟩
  rintro a u8 ⟨M2, A0, k0, A1, k1, A2, k2, A3, k3, rfl, hb8, hv8, ho8, hm8⟩
  dsimp only
  simp only [upd, List.setIfInBounds_toArray, List.set_cons_zero, List.set_cons_succ]
  replace HB := Lib.hid (HB.out.trans (hb8.mono HB.out.size))
  replace HG := Lib.hid (HG.out.below hb8 HG.out.lt)
  replace HTL := Lib.hid (HTL.out.later hb8)
  have HV2 := Lib.hid hv8
  have HO2 := Lib.hid ho8
  clear hb8 hv8 ho8 hm8 HF8 HT8 g0 g1 g2 g3 q0 q1 q2 q3 hltg hltm y0 y1 y2 y3 hlty HL HT1 HO1 HM HV1
  obtain ⟨g0, g1, g2, g3⟩ := four_cells HG.out
  obtain ⟨x0, x1, x2, x3⟩ := four_cells HV2.out
  go_wp2_with (first
    | (go_at_call 13; (with_reducible refine (HLAY2.out _ _ _ _ _ _ _ _ _ HO2.out.lies).mono ?_); rintro e w1 hh; obtain ⟨C2, c2, L2, he, -, hcap, -, hsa, hb⟩ := hh.got; rw [HKL.out] at he hcap; obtain rfl := he; replace HB := Lib.hid (HB.out.trans (hb.mono HB.out.size)); replace HG := Lib.hid (HG.out.below hb HG.out.lt); replace HTL := Lib.hid (HTL.out.later hb); replace HV2 := Lib.hid (HV2.out.below hb HV2.out.lt); replace HO2 := Lib.hid (HO2.out.below hb); have HT2 := Lib.hid hsa; clear hsa hcap; clear g0 g1 g2 g3 x0 x1 x2 x3 hb; obtain ⟨g0, g1, g2, g3⟩ := four_cells HG.out; obtain ⟨x0, x1, x2, x3⟩ := four_cells HV2.out)
    | (go_at_call 20; (with_reducible refine (HFEW.out _ HTL.out).mono ?_); rintro e w2 ⟨he, hb⟩; obtain rfl := he; replace HB := Lib.hid (HB.out.trans (hb.mono HB.out.size)); replace HG := Lib.hid (HG.out.below hb HG.out.lt); replace HTL := Lib.hid (HTL.out.later hb); replace HV2 := Lib.hid (HV2.out.below hb HV2.out.lt); replace HO2 := Lib.hid (HO2.out.below hb); replace HT2 := Lib.hid (HT2.out.later hb); clear g0 g1 g2 g3 x0 x1 x2 x3 hb; obtain ⟨g0, g1, g2, g3⟩ := four_cells HG.out; obtain ⟨x0, x1, x2, x3⟩ := four_cells HV2.out)
    | (go_at_call 18; (with_reducible refine (HSEC.out _ _ _ _ HT2.out HTL.out).mono ?_); rintro e w3 ⟨he, hb⟩; obtain rfl := he; replace HB := Lib.hid (HB.out.trans (hb.mono HB.out.size)); replace HG := Lib.hid (HG.out.below hb HG.out.lt); replace HTL := Lib.hid (HTL.out.later hb); replace HV2 := Lib.hid (HV2.out.below hb HV2.out.lt); replace HO2 := Lib.hid (HO2.out.below hb); replace HT2 := Lib.hid (HT2.out.later hb); clear g0 g1 g2 g3 x0 x1 x2 x3 hb; obtain ⟨g0, g1, g2, g3⟩ := four_cells HG.out; obtain ⟨x0, x1, x2, x3⟩ := four_cells HV2.out))
  go_ret
  exact ⟨rfl, HB.out⟩
set_option maxRecDepth 100000 in
set_option maxHeartbeats 6400000 in
theorem back_nn (j i g p : Int) (m : Meta.Met) (ho : Okm m) (M0 M1 M2 M3 : Option Addr) (r0 e0 r1 e1 r2 e2 r3 e3 : Nat) (l : List (List UInt8)) (A : Option Addr) (n c : Nat) (L : List Sc) (w : World) (h0 : m.rows.length = r0) (h1 : m.own.length = r1) (h2 : m.used.length = r2) (h3 : m.ino.length = r3) (hl : Lies w w.heap.size ⟨M0, e0, M1, e1, M2, e2, M3, e3⟩ m) (hln : l.length = n) (hc : n ≤ c) (hs : SecsAt w w.heap.size A L l) (hsm : smallB r0 r1 r2 r3 = true) (hR : ¬ Meta.Right ⟨j, i, g, p⟩ m) (hT : takM ⟨j, i, g, p⟩ (l.take (fewN 50 l)) = (.z, 140)) :
    Calls Try.prog 5 #[.agg #[.int .i64 j, .int .i64 i, .int .i64 g, .int .i64 p], .agg #[.slice M0 r0 e0, .slice M1 r1 e1, .slice M2 r2 e2, .slice M3 r3 e3], .slice A n c] w fun e w' => e = .returned (.bool true) ∧ Below w.heap.size w w' := by
  obtain ⟨s0, s1, s2, s3⟩ := small_yes hsm
  have HS : Hid (∀ u : World, Calls Try.prog 10 #[.agg #[.slice M0 r0 e0, .slice M1 r1 e1, .slice M2 r2 e2, .slice M3 r3 e3]] u fun e w' => e = .returned (.bool true) ∧ Below u.heap.size u w') := Lib.hid (fun u => by
    have := small_in M0 M1 M2 M3 r0 e0 r1 e1 r2 e2 r3 e3 u
    rwa [hsm] at this)
  have hfl := fewN_le 50 l
  obtain ⟨k, hk⟩ : ∃ k, fewN 50 l = k := ⟨_, rfl⟩
  rw [hk] at hfl hT
  have hkl : (l.take k).length = k := by rw [List.length_take]; omega
  obtain ⟨W, hW⟩ : ∃ W, W = (w.alloc (.cells #[.int .i64 j, .int .i64 i, .int .i64 g, .int .i64 p] 23)).alloc (.cells #[.slice M0 r0 e0, .slice M1 r1 e1, .slice M2 r2 e2, .slice M3 r3 e3] 29) := ⟨_, rfl⟩
  have hbW : Below w.heap.size w W := by rw [hW]; exact (Below.refl _ _).alloc (Nat.le_refl _) _ |>.alloc (by simp) _
  have hG : Bk W w.heap.size 23 [.int .i64 j, .int .i64 i, .int .i64 g, .int .i64 p] := by rw [hW]; exact (geo_box w j i g p).below (al_below _ _) (by simp)
  have hM : Bk W (w.heap.size + 1) 29 [.slice M0 r0 e0, .slice M1 r1 e1, .slice M2 r2 e2, .slice M3 r3 e3] := by
    rw [hW]
    have := Bk.new (w.alloc (.cells #[.int .i64 j, .int .i64 i, .int .i64 g, .int .i64 p] 23)) 29 [.slice M0 r0 e0, .slice M1 r1 e1, .slice M2 r2 e2, .slice M3 r3 e3]
    simpa using this
  have HG := Lib.hid hG
  have HM := Lib.hid hM
  have HB := Lib.hid hbW
  have HW := Lib.hid hW
  have HL := Lib.hid (hl.later hbW)
  have HTL := Lib.hid (hs.later hbW)
  obtain ⟨g0, g1, g2, g3⟩ := four_cells hG
  obtain ⟨q0, q1, q2, q3⟩ := four_cells hM
  have hltg := hG.lt
  have hltm := hM.lt
  clear hbW hG hM hW hl hs
  obtain ⟨z1, z2, z3, z4, z5⟩ := takM_ok ⟨j, i, g, p⟩ []
  obtain ⟨mb, hmb⟩ : ∃ mb, (takM ⟨j, i, g, p⟩ []).1 = mb := ⟨_, rfl⟩
  obtain ⟨eb, heb⟩ : ∃ eb, (takM ⟨j, i, g, p⟩ []).2 = eb := ⟨_, rfl⟩
  have hbr : takM ⟨j, i, g, p⟩ [] = (mb, eb) := by rw [← hmb, ← heb]
  obtain ⟨b0, hb0⟩ : ∃ q, mb.rows.length = q := ⟨_, rfl⟩
  obtain ⟨b1, hb1⟩ : ∃ q, mb.own.length = q := ⟨_, rfl⟩
  obtain ⟨b2, hb2⟩ : ∃ q, mb.used.length = q := ⟨_, rfl⟩
  obtain ⟨b3, hb3⟩ : ∃ q, mb.ino.length = q := ⟨_, rfl⟩
  have HP0 := Lib.hid hb0
  have HP1 := Lib.hid hb1
  have HP2 := Lib.hid hb2
  have HP3 := Lib.hid hb3
  have HLAY : Hid (∀ u : World, Lies u u.heap.size ⟨M0, e0, M1, e1, M2, e2, M3, e3⟩ m → Calls Try.prog 13 #[.agg #[.int .i64 j, .int .i64 i, .int .i64 g, .int .i64 p], .agg #[.slice M0 r0 e0, .slice M1 r1 e1, .slice M2 r2 e2, .slice M3 r3 e3]] u fun e w' => HandsL u ([], 1) e w') := Lib.hid (fun u hl => by
    have := lay_in j i g p m ho M0 M1 M2 M3 r0 e0 r1 e1 r2 e2 r3 e3 u h0 h1 h2 h3 hl (by omega)
    rwa [lay_no hR] at this)
  have HTAKE1 : Hid (∀ (u : World) (A : Option Addr) (c : Nat) (L : List Sc), SecsAt u u.heap.size A L [] → 0 ≤ c → Calls Try.prog 19 #[.agg #[.int .i64 j, .int .i64 i, .int .i64 g, .int .i64 p], .slice A 0 c] u fun e w' => HandsM u (mb, eb) e w') := Lib.hid (fun u A c L hs hc => by
    have := ptake_any ⟨j, i, g, p⟩ [] A 0 c L u rfl hs (by omega) hc
    rwa [hbr] at this)
  have HRIGHT : Hid (∀ u : World, Lies u u.heap.size ⟨M0, e0, M1, e1, M2, e2, M3, e3⟩ m → Calls Try.prog 16 #[.agg #[.int .i64 j, .int .i64 i, .int .i64 g, .int .i64 p], .agg #[.slice M0 r0 e0, .slice M1 r1 e1, .slice M2 r2 e2, .slice M3 r3 e3]] u fun e w' => e = .returned (.bool false) ∧ Below u.heap.size u w') := Lib.hid (fun u hl => by
    have := right_in j i g p m ho M0 M1 M2 M3 r0 e0 r1 e1 r2 e2 r3 e3 u h0 h1 h2 h3 hl (by omega)
    rwa [rightB_no hR] at this)
  have HFEW : Hid (∀ u : World, SecsAt u u.heap.size A L l → Calls Try.prog 20 #[.slice A n c] u fun e w' => e = .returned (.slice A k c) ∧ Below u.heap.size u w') := Lib.hid (fun u hu => by
    have := few_any l A n c L u hln hu hc
    rwa [hk] at this)
  have HTAKE2 : Hid (∀ u : World, SecsAt u u.heap.size A L l → Calls Try.prog 19 #[.agg #[.int .i64 j, .int .i64 i, .int .i64 g, .int .i64 p], .slice A k c] u fun e w' => HandsM u (.z, 140) e w') := Lib.hid (fun u hu => by
    have := ptake_any ⟨j, i, g, p⟩ (l.take k) A k c (L.take k) u hkl (hu.few k) (by omega) (by omega)
    rwa [hT] at this)
  have HN0 : Hid (Met.z.rows.length = 0) := Lib.hid rfl
  have HN1 : Hid (Met.z.own.length = 0) := Lib.hid rfl
  have HN2 : Hid (Met.z.used.length = 0) := Lib.hid rfl
  have HN3 : Hid (Met.z.ino.length = 0) := Lib.hid rfl
  have HLAY2 : Hid (∀ (u : World) (A0 A1 A2 A3 : Option Addr) (k0 k1 k2 k3 : Nat), Lies u u.heap.size ⟨A0, k0, A1, k1, A2, k2, A3, k3⟩ .z → Calls Try.prog 13 #[.agg #[.int .i64 j, .int .i64 i, .int .i64 g, .int .i64 p], .agg #[.slice A0 0 k0, .slice A1 0 k1, .slice A2 0 k2, .slice A3 0 k3]] u fun e w' => HandsL u ([], 1) e w') := Lib.hid (fun u A0 A1 A2 A3 k0 k1 k2 k3 hl => by
    have := lay_in j i g p .z Okm.z A0 A1 A2 A3 0 k0 0 k1 0 k2 0 k3 u rfl rfl rfl rfl hl (by decide)
    rwa [lay_no (not_right_z _)] at this)
  have HSAME2 : Hid (∀ (u : World) (A0 A1 A2 A3 : Option Addr) (k0 k1 k2 k3 : Nat), Lies u u.heap.size ⟨A0, k0, A1, k1, A2, k2, A3, k3⟩ .z → Calls Try.prog 15 #[.agg #[.slice A0 0 k0, .slice A1 0 k1, .slice A2 0 k2, .slice A3 0 k3], .agg #[.slice none 0 0, .slice none 0 0, .slice none 0 0, .slice none 0 0]] u fun e w' => e = .returned (.bool true) ∧ Below u.heap.size u w') := Lib.hid (fun u A0 A1 A2 A3 k0 k1 k2 k3 hl =>
    rsame_in .z Okm.z A0 A1 A2 A3 none none none none 0 k0 0 k1 0 k2 0 k3 0 0 0 0 u rfl rfl rfl rfl hl (lies_z u) (by decide))
  clear hsm ho h0 h1 h2 h3 hln hc hR hT hfl hk hkl s0 s1 s2 s3 z1 z2 z3 z4 z5 hmb heb hbr hb0 hb1 hb2 hb3
  go_enter Try.func5, Try.ntmps5
  go_upto_region 1 with fail
  rw [← HW.out]
  go_upto_region 8 with (first
    | (go_at_call 9; (with_reducible refine (shown_any _).mono ?_); rintro e w1 ⟨he, hb⟩; obtain rfl := he; replace HB := Lib.hid (HB.out.trans (hb.mono HB.out.size)); replace HG := Lib.hid (HG.out.below hb HG.out.lt); replace HM := Lib.hid (HM.out.below hb HM.out.lt); replace HL := Lib.hid (HL.out.later hb); replace HTL := Lib.hid (HTL.out.later hb); clear g0 g1 g2 g3 q0 q1 q2 q3 hltg hltm hb; obtain ⟨g0, g1, g2, g3⟩ := four_cells HG.out; have hltg := HG.out.lt; obtain ⟨q0, q1, q2, q3⟩ := four_cells HM.out; have hltm := HM.out.lt)
    | (go_at_call 10; (with_reducible refine (HS.out _).mono ?_); rintro e w2 ⟨he, hb⟩; obtain rfl := he; replace HB := Lib.hid (HB.out.trans (hb.mono HB.out.size)); replace HG := Lib.hid (HG.out.below hb HG.out.lt); replace HM := Lib.hid (HM.out.below hb HM.out.lt); replace HL := Lib.hid (HL.out.later hb); replace HTL := Lib.hid (HTL.out.later hb); clear g0 g1 g2 g3 q0 q1 q2 q3 hltg hltm hb; obtain ⟨g0, g1, g2, g3⟩ := four_cells HG.out; have hltg := HG.out.lt; obtain ⟨q0, q1, q2, q3⟩ := four_cells HM.out; have hltm := HM.out.lt)
    | (go_at_call 13; (with_reducible refine (HLAY.out _ HL.out).mono ?_); rintro e w3 hh; obtain ⟨C1, c1, L1, he, -, hcap, -, hsa, hb⟩ := hh.got; rw [List.length_nil] at he hcap; obtain rfl := he; replace HB := Lib.hid (HB.out.trans (hb.mono HB.out.size)); replace HG := Lib.hid (HG.out.below hb HG.out.lt); replace HM := Lib.hid (HM.out.below hb HM.out.lt); replace HL := Lib.hid (HL.out.later hb); replace HTL := Lib.hid (HTL.out.later hb); have HT1 := Lib.hid hsa; have HCAP := Lib.hid hcap; clear hsa hcap; clear g0 g1 g2 g3 q0 q1 q2 q3 hltg hltm hb; obtain ⟨g0, g1, g2, g3⟩ := four_cells HG.out; have hltg := HG.out.lt; obtain ⟨q0, q1, q2, q3⟩ := four_cells HM.out; have hltm := HM.out.lt)
    | (go_at_call 19; (with_reducible refine (HTAKE1.out _ _ _ _ HT1.out HCAP.out).mono ?_); rintro e w4 hh; obtain ⟨B0, d0, B1, d1, B2, d2, B3, d3, he, ho, hb⟩ := hh.got HP0.out HP1.out HP2.out HP3.out; obtain rfl := he; replace HB := Lib.hid (HB.out.trans (hb.mono HB.out.size)); replace HG := Lib.hid (HG.out.below hb HG.out.lt); replace HM := Lib.hid (HM.out.below hb HM.out.lt); replace HL := Lib.hid (HL.out.later hb); replace HTL := Lib.hid (HTL.out.later hb); replace HT1 := Lib.hid (HT1.out.later hb); have HO1 := Lib.hid ho; clear ho; clear g0 g1 g2 g3 q0 q1 q2 q3 hltg hltm hb; obtain ⟨g0, g1, g2, g3⟩ := four_cells HG.out; have hltg := HG.out.lt; obtain ⟨q0, q1, q2, q3⟩ := four_cells HM.out; have hltm := HM.out.lt)
    | (go_at_call 16; have hal := al_below w4 (.cells #[.slice B0 b0 d0, .slice B1 b1 d1, .slice B2 b2 d2, .slice B3 b3 d3] 29); replace HB := Lib.hid (HB.out.trans (hal.mono HB.out.size)); replace HG := Lib.hid (HG.out.below hal HG.out.lt); replace HM := Lib.hid (HM.out.below hal HM.out.lt); replace HL := Lib.hid (HL.out.later hal); replace HTL := Lib.hid (HTL.out.later hal); replace HT1 := Lib.hid (HT1.out.later hal); replace HO1 := Lib.hid (HO1.out.below hal); have HV1 := Lib.hid (Bk.new w4 29 [.slice B0 b0 d0, .slice B1 b1 d1, .slice B2 b2 d2, .slice B3 b3 d3]); clear hal; (with_reducible refine (HRIGHT.out _ HL.out).mono ?_); rintro e w5 ⟨he, hb⟩; obtain rfl := he; replace HB := Lib.hid (HB.out.trans (hb.mono HB.out.size)); replace HG := Lib.hid (HG.out.below hb HG.out.lt); replace HM := Lib.hid (HM.out.below hb HM.out.lt); replace HL := Lib.hid (HL.out.later hb); replace HTL := Lib.hid (HTL.out.later hb); replace HT1 := Lib.hid (HT1.out.later hb); replace HO1 := Lib.hid (HO1.out.below hb); replace HV1 := Lib.hid (HV1.out.below hb HV1.out.lt); clear g0 g1 g2 g3 q0 q1 q2 q3 hltg hltm hb; obtain ⟨g0, g1, g2, g3⟩ := four_cells HG.out; have hltg := HG.out.lt; obtain ⟨q0, q1, q2, q3⟩ := four_cells HM.out; have hltm := HM.out.lt; obtain ⟨y0, y1, y2, y3⟩ := four_cells HV1.out; have hlty := HV1.out.lt))
  have HF8 := Lib.hid (fun (u : World) (hu : Below w5.heap.size w5 u) => HFEW.out u (HTL.out.later hu))
  have HT8 := Lib.hid (fun (u : World) (hu : Below w5.heap.size w5 u) => HTAKE2.out u (HTL.out.later hu))
  refine wp_cutA (fun a0 a u => ∃ M A0 k0 A1 k1 A2 k2 A3 k3, a = { tmps := upd a0.tmps [(63, .agg #[.int .i64 j, .int .i64 i, .int .i64 g, .int .i64 p]), (64, .slice A n c), (65, .slice A k c), (66, .tuple #[.agg #[.slice A0 0 k0, .slice A1 0 k1, .slice A2 0 k2, .slice A3 0 k3], .int .i64 140]), (62, .tuple #[.agg #[.slice A0 0 k0, .slice A1 0 k1, .slice A2 0 k2, .slice A3 0 k3], .int .i64 140]), (67, .agg #[.slice A0 0 k0, .slice A1 0 k1, .slice A2 0 k2, .slice A3 0 k3]), (68, .int .i64 140), (12, .pointer (some ⟨M, 0, none⟩)), (13, .int .i64 140)], defers := a0.defers } ∧ Below w5.heap.size w5 u ∧ Bk u M 29 [.slice A0 0 k0, .slice A1 0 k1, .slice A2 0 k2, .slice A3 0 k3] ∧ OwnM u w5.heap.size ⟨A0, k0, A1, k1, A2, k2, A3, k3⟩ .z ∧ w5.heap.size ≤ M) ?_ ?_
  · clear g0 g1 g2 g3 q0 q1 q2 q3 hltg hltm y0 y1 y2 y3 hlty HB HL HTL HT1 HO1 HM HV1
    have hS0 : Below w5.heap.size w5 w5.drew := (Below.refl _ _).drew
    refine wp_region_held_drew (S := fun u => Below w5.heap.size w5 u) (by kernel_rfl) hS0 (fun hHeld => ?_)
    refine wpAnyH_take (i := 0) (oi := _) (v := ?_) (by simp only [List.getElem?_toArray, List.getElem?_cons_zero]; rfl) (by kernel_rfl) (by kernel_rfl) (by kernel_rfl) (by exact fun _ _ _ h => h) (Or.inl ⟨by rfl, ?hyx00⟩) (by exact hHeld) ?rex00
    case hyx00 => (intro u hu; obtain ⟨g0, g1, g2, g3⟩ := four_cells (HG.out.below hu HG.out.lt); clear hu; go_simp <;> with_reducible rfl)
    try simp only [Act.put, List.setIfInBounds_toArray, List.set_cons_zero, List.set_cons_succ]
    refine wpAnyH_take (i := 1) (oi := _) (v := ?_) (by simp only [List.getElem?_toArray, List.getElem?_cons_succ, List.getElem?_cons_zero]; rfl) (by kernel_rfl) (by kernel_rfl) (by kernel_rfl) (by exact fun _ _ _ h => h) (Or.inl ⟨by rfl, ?hyx01⟩) (by exact hHeld) ?rex01
    case hyx01 => (intro u hu; obtain ⟨g0, g1, g2, g3⟩ := four_cells (HG.out.below hu HG.out.lt); clear hu; go_simp <;> with_reducible rfl)
    try simp only [Act.put, List.setIfInBounds_toArray, List.set_cons_zero, List.set_cons_succ]
    clear hS0
    generalize hu0 : w5.drew = u0 at *
    clear hu0
    refine wpAnyH_ready (rs := [2, 7]) (by kernel_rfl) (by simp) ?_
    refine AllReadyH.cons (o := _) (by simp only [List.getElem?_toArray, List.getElem?_cons_succ, List.getElem?_cons_zero]; rfl) (fun K hK => ?_) (AllReadyH.cons (o := _) (by simp only [List.getElem?_toArray, List.getElem?_cons_succ, List.getElem?_cons_zero]; rfl) (fun K hK => ?_) (AllReadyH.nil))
    · go_simp
      (with_reducible refine (HF8.out _ hHeld).mono ?_)
      rintro e v2 ⟨he, hb⟩; obtain rfl := he
      have hS : Below w5.heap.size w5 v2 := hHeld.trans (hb.mono hHeld.size)
      clear hb
      go_simp
      refine hK.out _ _ hS (fun hHeld2 => ?_)
      clear hK K hHeld hS
      have hHeld := hHeld2
      clear hHeld2
      try simp only [Act.put, List.setIfInBounds_toArray, List.set_cons_zero, List.set_cons_succ]
      refine wpAnyH_ready (rs := [3, 7]) (by kernel_rfl) (by simp) ?_
      refine AllReadyH.cons (o := _) (by simp only [List.getElem?_toArray, List.getElem?_cons_succ, List.getElem?_cons_zero]; rfl) (fun K hK => ?_) (AllReadyH.cons (o := _) (by simp only [List.getElem?_toArray, List.getElem?_cons_succ, List.getElem?_cons_zero]; rfl) (fun K hK => ?_) (AllReadyH.nil))
      · go_simp
        (with_reducible refine (HT8.out _ hHeld).mono ?_)
        rintro e v3 hh
        obtain ⟨A0, k0, A1, k1, A2, k2, A3, k3, he, ho, hb⟩ := hh.got HN0.out HN1.out HN2.out HN3.out
        obtain rfl := he
        have KO := Lib.hid (ho.base hHeld.size)
        clear ho hh
        have hS : Below w5.heap.size w5 v3 := hHeld.trans (hb.mono hHeld.size)
        clear hb
        go_simp
        refine hK.out _ _ hS (fun hHeld2 => ?_)
        clear hK K hHeld hS
        have hHeld := hHeld2
        clear hHeld2
        try simp only [Act.put, List.setIfInBounds_toArray, List.set_cons_zero, List.set_cons_succ]
        refine wpAnyH_take (i := 4) (oi := _) (v := ?_) (by simp only [List.getElem?_toArray, List.getElem?_cons_succ, List.getElem?_cons_zero]; rfl) (by kernel_rfl) (by kernel_rfl) (by kernel_rfl) (by exact fun _ _ _ h => h) (Or.inl ⟨by rfl, ?hyx34⟩) (by exact hHeld) ?rex34
        case hyx34 => (intro u hu; clear hu; go_simp <;> with_reducible rfl)
        try simp only [Act.put, List.setIfInBounds_toArray, List.set_cons_zero, List.set_cons_succ]
        refine wpAnyH_take (i := 5) (oi := _) (v := ?_) (by simp only [List.getElem?_toArray, List.getElem?_cons_succ, List.getElem?_cons_zero]; rfl) (by kernel_rfl) (by kernel_rfl) (by kernel_rfl) (by exact fun _ _ _ h => h) (Or.inl ⟨by rfl, ?hyx35⟩) (by exact hHeld) ?rex35
        case hyx35 => (intro u hu; clear hu; go_simp <;> with_reducible rfl)
        try simp only [Act.put, List.setIfInBounds_toArray, List.set_cons_zero, List.set_cons_succ]
        refine wpAnyH_take (i := 6) (oi := _) (v := ?_) (by simp only [List.getElem?_toArray, List.getElem?_cons_succ, List.getElem?_cons_zero]; rfl) (by kernel_rfl) (by kernel_rfl) (by kernel_rfl) (by exact fun _ _ _ h => h) (Or.inl ⟨by rfl, ?hyx36⟩) (by exact hHeld) ?rex36
        case hyx36 => (intro u hu; clear hu; go_simp <;> with_reducible rfl)
        try simp only [Act.put, List.setIfInBounds_toArray, List.set_cons_zero, List.set_cons_succ]
        refine wpAnyH_ready (rs := [7]) (by kernel_rfl) (by simp) ?_
        refine AllReadyH.cons (o := _) (by simp only [List.getElem?_toArray, List.getElem?_cons_succ, List.getElem?_cons_zero]; rfl) (fun K hK => ?_) (AllReadyH.nil)
        go_simp
        obtain ⟨v5, hw⟩ : ∃ u, u = v3.alloc (.cells #[.slice none 0 0, .slice none 0 0, .slice none 0 0, .slice none 0 0] 29) := ⟨_, rfl⟩
        rw [← hw]
        have hb : Below v3.heap.size v3 v5 := by rw [hw]; exact al_below _ _
        replace KO := Lib.hid (KO.out.below hb)
        have KM : Hid (Bk v5 v3.heap.size 29 [.slice none 0 0, .slice none 0 0, .slice none 0 0, .slice none 0 0]) := Lib.hid (by rw [hw]; exact Bk.new _ _ _)
        have LM : Hid (w5.heap.size ≤ v3.heap.size) := Lib.hid hHeld.size
        clear hw
        have hS : Below w5.heap.size w5 v5 := hHeld.trans (hb.mono hHeld.size)
        clear hb
        refine hK.out _ _ hS (fun hHeld2 => ?_)
        clear hK K hHeld hS
        have hHeld := hHeld2
        clear hHeld2
        try simp only [Act.put, List.setIfInBounds_toArray, List.set_cons_zero, List.set_cons_succ]
        obtain ⟨r0, r1, r2, r3⟩ := four_cells KM.out
        obtain ⟨f0, f1, f2, f3⟩ := four_frozen KM.out
        have hlz := KM.out.lt
        refine wpAnyH_ready (rs := [8]) (by kernel_rfl) (by simp) ?_
        refine AllReadyH.cons (o := _) (by simp only [List.getElem?_toArray, List.getElem?_cons_succ, List.getElem?_cons_zero]; rfl) (fun K hK => ?_) AllReadyH.nil
        go_simp
        change K _ (put4 v5 v3.heap.size (.slice A0 0 k0) (.slice A1 0 k1) (.slice A2 0 k2) (.slice A3 0 k3))
        have hS : Below w5.heap.size w5 (put4 v5 v3.heap.size (.slice A0 0 k0) (.slice A1 0 k1) (.slice A2 0 k2) (.slice A3 0 k3)) := put4_below hHeld LM.out _ _ _ _
        have HVV := Lib.hid (put4_bk (a0 := .slice A0 0 k0) (a1 := .slice A1 0 k1) (a2 := .slice A2 0 k2) (a3 := .slice A3 0 k3) KM.out)
        have HOO := Lib.hid (ownM_set (((KM.out.set 0 (.slice A0 0 k0)).set 1 (.slice A1 0 k1)).set 2 (.slice A2 0 k2)) (ownM_set ((KM.out.set 0 (.slice A0 0 k0)).set 1 (.slice A1 0 k1)) (ownM_set (KM.out.set 0 (.slice A0 0 k0)) (ownM_set KM.out KO.out 0 (.slice A0 0 k0)) 1 (.slice A1 0 k1)) 2 (.slice A2 0 k2)) 3 (.slice A3 0 k3))
        refine hK.out _ _ hS (fun hHeld2 => ?_)
        clear hK K hS hHeld r0 r1 r2 r3 f0 f1 f2 f3 hlz
        have hHeld := hHeld2
        clear hHeld2
        try simp only [Act.put, List.setIfInBounds_toArray, List.set_cons_zero, List.set_cons_succ]
        refine wpAnyH_take (i := 9) (oi := _) (v := ?_) (by simp only [List.getElem?_toArray, List.getElem?_cons_succ, List.getElem?_cons_zero]; rfl) (by kernel_rfl) (by kernel_rfl) (by kernel_rfl) (by exact fun _ _ _ h => h) (Or.inl ⟨by rfl, ?hyx69⟩) (by exact hHeld) ?rex69
        case hyx69 => (intro u hu; clear hu; go_simp <;> with_reducible rfl)
        try simp only [Act.put, List.setIfInBounds_toArray, List.set_cons_zero, List.set_cons_succ]
        refine wpAnyH_done (by kernel_rfl) ?_ _
        exact ⟨v3.heap.size, A0, k0, A1, k1, A2, k2, A3, k3, by simp only [upd, List.setIfInBounds_toArray, List.set_cons_zero, List.set_cons_succ], hHeld, HVV.out, HOO.out, LM.out⟩
      · go_simp
        obtain ⟨v8, hw⟩ : ∃ u, u = v2.alloc (.cells #[.slice none 0 0, .slice none 0 0, .slice none 0 0, .slice none 0 0] 29) := ⟨_, rfl⟩
        rw [← hw]
        have hb : Below v2.heap.size v2 v8 := by rw [hw]; exact al_below _ _
        have KM : Hid (Bk v8 v2.heap.size 29 [.slice none 0 0, .slice none 0 0, .slice none 0 0, .slice none 0 0]) := Lib.hid (by rw [hw]; exact Bk.new _ _ _)
        have LM : Hid (w5.heap.size ≤ v2.heap.size) := Lib.hid hHeld.size
        clear hw
        have hS : Below w5.heap.size w5 v8 := hHeld.trans (hb.mono hHeld.size)
        clear hb
        refine hK.out _ _ hS (fun hHeld2 => ?_)
        clear hK K hHeld hS
        have hHeld := hHeld2
        clear hHeld2
        try simp only [Act.put, List.setIfInBounds_toArray, List.set_cons_zero, List.set_cons_succ]
        refine wpAnyH_ready (rs := [3]) (by kernel_rfl) (by simp) ?_
        refine AllReadyH.cons (o := _) (by simp only [List.getElem?_toArray, List.getElem?_cons_succ, List.getElem?_cons_zero]; rfl) (fun K hK => ?_) (AllReadyH.nil)
        go_simp
        (with_reducible refine (HT8.out _ hHeld).mono ?_)
        rintro e v9 hh
        obtain ⟨A0, k0, A1, k1, A2, k2, A3, k3, he, ho, hb⟩ := hh.got HN0.out HN1.out HN2.out HN3.out
        obtain rfl := he
        replace KM := Lib.hid (KM.out.below hb KM.out.lt)
        have KO := Lib.hid (ho.base hHeld.size)
        clear ho hh
        have hS : Below w5.heap.size w5 v9 := hHeld.trans (hb.mono hHeld.size)
        clear hb
        go_simp
        refine hK.out _ _ hS (fun hHeld2 => ?_)
        clear hK K hHeld hS
        have hHeld := hHeld2
        clear hHeld2
        try simp only [Act.put, List.setIfInBounds_toArray, List.set_cons_zero, List.set_cons_succ]
        refine wpAnyH_take (i := 4) (oi := _) (v := ?_) (by simp only [List.getElem?_toArray, List.getElem?_cons_succ, List.getElem?_cons_zero]; rfl) (by kernel_rfl) (by kernel_rfl) (by kernel_rfl) (by exact fun _ _ _ h => h) (Or.inl ⟨by rfl, ?hyx94⟩) (by exact hHeld) ?rex94
        case hyx94 => (intro u hu; clear hu; go_simp <;> with_reducible rfl)
        try simp only [Act.put, List.setIfInBounds_toArray, List.set_cons_zero, List.set_cons_succ]
        refine wpAnyH_take (i := 5) (oi := _) (v := ?_) (by simp only [List.getElem?_toArray, List.getElem?_cons_succ, List.getElem?_cons_zero]; rfl) (by kernel_rfl) (by kernel_rfl) (by kernel_rfl) (by exact fun _ _ _ h => h) (Or.inl ⟨by rfl, ?hyx95⟩) (by exact hHeld) ?rex95
        case hyx95 => (intro u hu; clear hu; go_simp <;> with_reducible rfl)
        try simp only [Act.put, List.setIfInBounds_toArray, List.set_cons_zero, List.set_cons_succ]
        refine wpAnyH_take (i := 6) (oi := _) (v := ?_) (by simp only [List.getElem?_toArray, List.getElem?_cons_succ, List.getElem?_cons_zero]; rfl) (by kernel_rfl) (by kernel_rfl) (by kernel_rfl) (by exact fun _ _ _ h => h) (Or.inl ⟨by rfl, ?hyx96⟩) (by exact hHeld) ?rex96
        case hyx96 => (intro u hu; clear hu; go_simp <;> with_reducible rfl)
        try simp only [Act.put, List.setIfInBounds_toArray, List.set_cons_zero, List.set_cons_succ]
        obtain ⟨r0, r1, r2, r3⟩ := four_cells KM.out
        obtain ⟨f0, f1, f2, f3⟩ := four_frozen KM.out
        have hlz := KM.out.lt
        refine wpAnyH_ready (rs := [8]) (by kernel_rfl) (by simp) ?_
        refine AllReadyH.cons (o := _) (by simp only [List.getElem?_toArray, List.getElem?_cons_succ, List.getElem?_cons_zero]; rfl) (fun K hK => ?_) AllReadyH.nil
        go_simp
        change K _ (put4 v9 v2.heap.size (.slice A0 0 k0) (.slice A1 0 k1) (.slice A2 0 k2) (.slice A3 0 k3))
        have hS : Below w5.heap.size w5 (put4 v9 v2.heap.size (.slice A0 0 k0) (.slice A1 0 k1) (.slice A2 0 k2) (.slice A3 0 k3)) := put4_below hHeld LM.out _ _ _ _
        have HVV := Lib.hid (put4_bk (a0 := .slice A0 0 k0) (a1 := .slice A1 0 k1) (a2 := .slice A2 0 k2) (a3 := .slice A3 0 k3) KM.out)
        have HOO := Lib.hid (ownM_set (((KM.out.set 0 (.slice A0 0 k0)).set 1 (.slice A1 0 k1)).set 2 (.slice A2 0 k2)) (ownM_set ((KM.out.set 0 (.slice A0 0 k0)).set 1 (.slice A1 0 k1)) (ownM_set (KM.out.set 0 (.slice A0 0 k0)) (ownM_set KM.out KO.out 0 (.slice A0 0 k0)) 1 (.slice A1 0 k1)) 2 (.slice A2 0 k2)) 3 (.slice A3 0 k3))
        refine hK.out _ _ hS (fun hHeld2 => ?_)
        clear hK K hS hHeld r0 r1 r2 r3 f0 f1 f2 f3 hlz
        have hHeld := hHeld2
        clear hHeld2
        try simp only [Act.put, List.setIfInBounds_toArray, List.set_cons_zero, List.set_cons_succ]
        refine wpAnyH_take (i := 9) (oi := _) (v := ?_) (by simp only [List.getElem?_toArray, List.getElem?_cons_succ, List.getElem?_cons_zero]; rfl) (by kernel_rfl) (by kernel_rfl) (by kernel_rfl) (by exact fun _ _ _ h => h) (Or.inl ⟨by rfl, ?hyx119⟩) (by exact hHeld) ?rex119
        case hyx119 => (intro u hu; clear hu; go_simp <;> with_reducible rfl)
        try simp only [Act.put, List.setIfInBounds_toArray, List.set_cons_zero, List.set_cons_succ]
        refine wpAnyH_done (by kernel_rfl) ?_ _
        exact ⟨v2.heap.size, A0, k0, A1, k1, A2, k2, A3, k3, by simp only [upd, List.setIfInBounds_toArray, List.set_cons_zero, List.set_cons_succ], hHeld, HVV.out, HOO.out, LM.out⟩
    · go_simp
      obtain ⟨v13, hw⟩ : ∃ u, u = u0.alloc (.cells #[.slice none 0 0, .slice none 0 0, .slice none 0 0, .slice none 0 0] 29) := ⟨_, rfl⟩
      rw [← hw]
      have hb : Below u0.heap.size u0 v13 := by rw [hw]; exact al_below _ _
      have KM : Hid (Bk v13 u0.heap.size 29 [.slice none 0 0, .slice none 0 0, .slice none 0 0, .slice none 0 0]) := Lib.hid (by rw [hw]; exact Bk.new _ _ _)
      have LM : Hid (w5.heap.size ≤ u0.heap.size) := Lib.hid hHeld.size
      clear hw
      have hS : Below w5.heap.size w5 v13 := hHeld.trans (hb.mono hHeld.size)
      clear hb
      refine hK.out _ _ hS (fun hHeld2 => ?_)
      clear hK K hHeld hS
      have hHeld := hHeld2
      clear hHeld2
      try simp only [Act.put, List.setIfInBounds_toArray, List.set_cons_zero, List.set_cons_succ]
      refine wpAnyH_ready (rs := [2]) (by kernel_rfl) (by simp) ?_
      refine AllReadyH.cons (o := _) (by simp only [List.getElem?_toArray, List.getElem?_cons_succ, List.getElem?_cons_zero]; rfl) (fun K hK => ?_) (AllReadyH.nil)
      go_simp
      (with_reducible refine (HF8.out _ hHeld).mono ?_)
      rintro e v14 ⟨he, hb⟩; obtain rfl := he
      replace KM := Lib.hid (KM.out.below hb KM.out.lt)
      have hS : Below w5.heap.size w5 v14 := hHeld.trans (hb.mono hHeld.size)
      clear hb
      go_simp
      refine hK.out _ _ hS (fun hHeld2 => ?_)
      clear hK K hHeld hS
      have hHeld := hHeld2
      clear hHeld2
      try simp only [Act.put, List.setIfInBounds_toArray, List.set_cons_zero, List.set_cons_succ]
      refine wpAnyH_ready (rs := [3]) (by kernel_rfl) (by simp) ?_
      refine AllReadyH.cons (o := _) (by simp only [List.getElem?_toArray, List.getElem?_cons_succ, List.getElem?_cons_zero]; rfl) (fun K hK => ?_) (AllReadyH.nil)
      go_simp
      (with_reducible refine (HT8.out _ hHeld).mono ?_)
      rintro e v15 hh
      obtain ⟨A0, k0, A1, k1, A2, k2, A3, k3, he, ho, hb⟩ := hh.got HN0.out HN1.out HN2.out HN3.out
      obtain rfl := he
      replace KM := Lib.hid (KM.out.below hb KM.out.lt)
      have KO := Lib.hid (ho.base hHeld.size)
      clear ho hh
      have hS : Below w5.heap.size w5 v15 := hHeld.trans (hb.mono hHeld.size)
      clear hb
      go_simp
      refine hK.out _ _ hS (fun hHeld2 => ?_)
      clear hK K hHeld hS
      have hHeld := hHeld2
      clear hHeld2
      try simp only [Act.put, List.setIfInBounds_toArray, List.set_cons_zero, List.set_cons_succ]
      refine wpAnyH_take (i := 4) (oi := _) (v := ?_) (by simp only [List.getElem?_toArray, List.getElem?_cons_succ, List.getElem?_cons_zero]; rfl) (by kernel_rfl) (by kernel_rfl) (by kernel_rfl) (by exact fun _ _ _ h => h) (Or.inl ⟨by rfl, ?hyx154⟩) (by exact hHeld) ?rex154
      case hyx154 => (intro u hu; clear hu; go_simp <;> with_reducible rfl)
      try simp only [Act.put, List.setIfInBounds_toArray, List.set_cons_zero, List.set_cons_succ]
      refine wpAnyH_take (i := 5) (oi := _) (v := ?_) (by simp only [List.getElem?_toArray, List.getElem?_cons_succ, List.getElem?_cons_zero]; rfl) (by kernel_rfl) (by kernel_rfl) (by kernel_rfl) (by exact fun _ _ _ h => h) (Or.inl ⟨by rfl, ?hyx155⟩) (by exact hHeld) ?rex155
      case hyx155 => (intro u hu; clear hu; go_simp <;> with_reducible rfl)
      try simp only [Act.put, List.setIfInBounds_toArray, List.set_cons_zero, List.set_cons_succ]
      refine wpAnyH_take (i := 6) (oi := _) (v := ?_) (by simp only [List.getElem?_toArray, List.getElem?_cons_succ, List.getElem?_cons_zero]; rfl) (by kernel_rfl) (by kernel_rfl) (by kernel_rfl) (by exact fun _ _ _ h => h) (Or.inl ⟨by rfl, ?hyx156⟩) (by exact hHeld) ?rex156
      case hyx156 => (intro u hu; clear hu; go_simp <;> with_reducible rfl)
      try simp only [Act.put, List.setIfInBounds_toArray, List.set_cons_zero, List.set_cons_succ]
      obtain ⟨r0, r1, r2, r3⟩ := four_cells KM.out
      obtain ⟨f0, f1, f2, f3⟩ := four_frozen KM.out
      have hlz := KM.out.lt
      refine wpAnyH_ready (rs := [8]) (by kernel_rfl) (by simp) ?_
      refine AllReadyH.cons (o := _) (by simp only [List.getElem?_toArray, List.getElem?_cons_succ, List.getElem?_cons_zero]; rfl) (fun K hK => ?_) AllReadyH.nil
      go_simp
      change K _ (put4 v15 u0.heap.size (.slice A0 0 k0) (.slice A1 0 k1) (.slice A2 0 k2) (.slice A3 0 k3))
      have hS : Below w5.heap.size w5 (put4 v15 u0.heap.size (.slice A0 0 k0) (.slice A1 0 k1) (.slice A2 0 k2) (.slice A3 0 k3)) := put4_below hHeld LM.out _ _ _ _
      have HVV := Lib.hid (put4_bk (a0 := .slice A0 0 k0) (a1 := .slice A1 0 k1) (a2 := .slice A2 0 k2) (a3 := .slice A3 0 k3) KM.out)
      have HOO := Lib.hid (ownM_set (((KM.out.set 0 (.slice A0 0 k0)).set 1 (.slice A1 0 k1)).set 2 (.slice A2 0 k2)) (ownM_set ((KM.out.set 0 (.slice A0 0 k0)).set 1 (.slice A1 0 k1)) (ownM_set (KM.out.set 0 (.slice A0 0 k0)) (ownM_set KM.out KO.out 0 (.slice A0 0 k0)) 1 (.slice A1 0 k1)) 2 (.slice A2 0 k2)) 3 (.slice A3 0 k3))
      refine hK.out _ _ hS (fun hHeld2 => ?_)
      clear hK K hS hHeld r0 r1 r2 r3 f0 f1 f2 f3 hlz
      have hHeld := hHeld2
      clear hHeld2
      try simp only [Act.put, List.setIfInBounds_toArray, List.set_cons_zero, List.set_cons_succ]
      refine wpAnyH_take (i := 9) (oi := _) (v := ?_) (by simp only [List.getElem?_toArray, List.getElem?_cons_succ, List.getElem?_cons_zero]; rfl) (by kernel_rfl) (by kernel_rfl) (by kernel_rfl) (by exact fun _ _ _ h => h) (Or.inl ⟨by rfl, ?hyx179⟩) (by exact hHeld) ?rex179
      case hyx179 => (intro u hu; clear hu; go_simp <;> with_reducible rfl)
      try simp only [Act.put, List.setIfInBounds_toArray, List.set_cons_zero, List.set_cons_succ]
      refine wpAnyH_done (by kernel_rfl) ?_ _
      exact ⟨u0.heap.size, A0, k0, A1, k1, A2, k2, A3, k3, by simp only [upd, List.setIfInBounds_toArray, List.set_cons_zero, List.set_cons_succ], hHeld, HVV.out, HOO.out, LM.out⟩
  rintro a u8 ⟨M2, A0, k0, A1, k1, A2, k2, A3, k3, rfl, hb8, hv8, ho8, hm8⟩
  dsimp only
  simp only [upd, List.setIfInBounds_toArray, List.set_cons_zero, List.set_cons_succ]
  replace HB := Lib.hid (HB.out.trans (hb8.mono HB.out.size))
  replace HG := Lib.hid (HG.out.below hb8 HG.out.lt)
  replace HTL := Lib.hid (HTL.out.later hb8)
  have HV2 := Lib.hid hv8
  have HO2 := Lib.hid ho8
  clear hb8 hv8 ho8 hm8 HF8 HT8 g0 g1 g2 g3 q0 q1 q2 q3 hltg hltm y0 y1 y2 y3 hlty HL HT1 HO1 HM HV1
  obtain ⟨g0, g1, g2, g3⟩ := four_cells HG.out
  obtain ⟨x0, x1, x2, x3⟩ := four_cells HV2.out
  go_wp2_with (first
    | (go_at_call 13; (with_reducible refine (HLAY2.out _ _ _ _ _ _ _ _ _ HO2.out.lies).mono ?_); rintro e w1 hh; obtain ⟨C2, c2, L2, he, -, hcap, -, hsa, hb⟩ := hh.got; rw [List.length_nil] at he hcap; obtain rfl := he; replace HB := Lib.hid (HB.out.trans (hb.mono HB.out.size)); replace HG := Lib.hid (HG.out.below hb HG.out.lt); replace HTL := Lib.hid (HTL.out.later hb); replace HV2 := Lib.hid (HV2.out.below hb HV2.out.lt); replace HO2 := Lib.hid (HO2.out.below hb); have HT2 := Lib.hid hsa; clear hsa hcap; clear g0 g1 g2 g3 x0 x1 x2 x3 hb; obtain ⟨g0, g1, g2, g3⟩ := four_cells HG.out; obtain ⟨x0, x1, x2, x3⟩ := four_cells HV2.out)
    | (go_at_call 15; (with_reducible refine (HSAME2.out _ _ _ _ _ _ _ _ _ HO2.out.lies).mono ?_); rintro e w2 ⟨he, hb⟩; obtain rfl := he; replace HB := Lib.hid (HB.out.trans (hb.mono HB.out.size)); replace HG := Lib.hid (HG.out.below hb HG.out.lt); replace HTL := Lib.hid (HTL.out.later hb); replace HV2 := Lib.hid (HV2.out.below hb HV2.out.lt); replace HO2 := Lib.hid (HO2.out.below hb); clear g0 g1 g2 g3 x0 x1 x2 x3 hb; obtain ⟨g0, g1, g2, g3⟩ := four_cells HG.out; obtain ⟨x0, x1, x2, x3⟩ := four_cells HV2.out))
  go_ret
  exact ⟨rfl, HB.out⟩
theorem back_walk (j i g p : Int) (x : Mem) (m : Meta.Met) (ho : Okm m) (l : List (List UInt8)) (A : Option Addr) (n c : Nat) (L : List Sc) (w : World) (hl : Lies w w.heap.size x m) (hln : l.length = n) (hc : n ≤ c) (hs : SecsAt w w.heap.size A L l) :
    Calls Try.prog 5 #[.agg #[.int .i64 j, .int .i64 i, .int .i64 g, .int .i64 p], x.v m, .slice A n c] w fun e w' => e = .returned (.bool true) ∧ Below w.heap.size w w' := by
  cases hsm : smallB m.rows.length m.own.length m.used.length m.ino.length with
  | false => exact back_great j i g p m ho x.rA x.oA x.uA x.iA _ x.rc _ x.oc _ x.uc _ x.ic l A n c L w rfl rfl rfl rfl hl hln hc hs hsm
  | true =>
    rcases tak_or ⟨j, i, g, p⟩ (l.take (fewN 50 l)) with ⟨mc, t1, t2, t3, t4⟩ | ⟨t4, _⟩ <;> by_cases hR : Meta.Right ⟨j, i, g, p⟩ m
    · exact back_yy j i g p m ho x.rA x.oA x.uA x.iA _ x.rc _ x.oc _ x.uc _ x.ic l A n c L w rfl rfl rfl rfl hl hln hc hs hsm hR mc t1 t2 t3 t4
    · exact back_ny j i g p m ho x.rA x.oA x.uA x.iA _ x.rc _ x.oc _ x.uc _ x.ic l A n c L w rfl rfl rfl rfl hl hln hc hs hsm hR mc t1 t2 t3 t4
    · exact back_yn j i g p m ho x.rA x.oA x.uA x.iA _ x.rc _ x.oc _ x.uc _ x.ic l A n c L w rfl rfl rfl rfl hl hln hc hs hsm hR t4
    · exact back_nn j i g p m ho x.rA x.oA x.uA x.iA _ x.rc _ x.oc _ x.uc _ x.ic l A n c L w rfl rfl rfl rfl hl hln hc hs hsm hR t4

set_option maxRecDepth 100000 in
theorem back_contract (H : Type) (enc : TypeId × Value → H) (W : World) (base : Nat) (args : Array Value) (ds gs : List (DataW H)) (before : List MemPlace)
    (hval : ∀ (j : Nat) t v, Try.f5.params[j]? = some t → args[j]? = some v → Value.okWide Try.prog W .any base t v)
    (hW : DataW.Whole enc Try.prog Try.f5.params.toList Rows.metaBackSpec.vars false W args.toList ds gs before) :
    Calls Try.prog 5 args W fun e W' => ∃ v, e = .returned v ∧ Rows.metaBackSpec.post enc Try.prog Try.f5 false true false false W args v W' := by
  have hW' := hW
  have hlt : ∀ x ∈ before, x.block < W.heap.size := fun x hx => hW.lt x hx
  obtain ⟨p, q, hA0, hV, rfl, _, _⟩ := hW
  have hA : DataW.TrodAll enc Try.prog W 0 (fun _ => true) true Try.f5.params.toList args.toList ds p := hA0
  rw [Try.params5] at hA hval
  obtain ⟨v0, vs0, d0, ds0, p0, q0, hargs, rfl, rfl, h0, r0⟩ := trodAll_cons hA
  obtain ⟨v1, vs1, d1, ds1, p1, q1, rfl, rfl, rfl, h1, r1⟩ := trodAll_cons r0
  obtain ⟨v2, vs2, d2, ds2, p2, q2, rfl, rfl, rfl, h2, r2⟩ := trodAll_cons r1
  obtain ⟨rfl, rfl, rfl⟩ := trodAll_nil r2
  obtain rfl : args = #[v0, v1, v2] := by cases args; simp_all
  obtain ⟨rfl, rfl⟩ := trodVars_none hV
  clear hA0
  obtain ⟨j0, i0, g0, p0, rfl, bj0, bi0, bg0, bp0⟩ := open_geo (hval 0 23 v0 rfl rfl) h0
  obtain ⟨x1, m1, rfl, ho1, hl1⟩ := open_met (hval 1 29 v1 rfl rfl) h1 (fun x hx => hlt x (by simp [hx]))
  obtain ⟨A2, n2, c2, L2, l2, rfl, hn2, hc2, hm2, hs2⟩ := open_secs (hval 2 35 v2 rfl rfl) h2 (fun x hx => hlt x (by simp [hx]))
  unfold maxLen at hm2
  refine (back_walk j0 i0 g0 p0 x1 m1 ho1 l2 A2 n2 c2 L2 W hl1 hn2 hc2 hs2).mono fun e W' ⟨he, hb⟩ => ?_
  subst he
  exact ⟨_, rfl, law_post laid (by kernel_rfl) Try.underlying4 (by rw [Try.params5]; decide +kernel) rfl hW' ⟨rfl, rfl, rfl⟩ hb⟩

set_option maxRecDepth 100000 in
theorem back_lifted (os : Os) (started : os.Started) (H : Type) (enc : TypeId × Value → H) :
    ReturnsInHanded {} Try.checked os 5 .any (Rows.metaBackSpec.pre6 enc Try.prog Try.f5 Rows.metaBackRow.domain false) (Rows.metaBackSpec.post enc Try.prog Try.f5 false true false false) := by
  refine returnsInHanded_of_change (C := Try.checked) own started (by kernel_rfl) Try.func5
    (ChangeSpec.witness6 (enc := enc) (C := Try.checked) false ⟨#[], #[.agg #[.int .i64 0, .int .i64 0, .int .i64 0, .int .i64 0], .agg #[.slice none 0 0, .slice none 0 0, .slice none 0 0, .slice none 0 0], .slice none 0 0], []⟩ 8 (by kernel_rfl) (by kernel_rfl) (by kernel_rfl) (by kernel_rfl)) ?_
  intro W base args ds gs before hval hW _ _
  exact back_contract H enc W base args ds gs before hval hW

/-- MetaBack is true for every input. -/
theorem back_holds : Rows.MetaBackSaid :=
  OpenClaim.holds_of_wide 5 Try.f5 rfl rfl rfl rfl rfl rfl rfl ⟨rfl, rfl, rfl, rfl, rfl⟩ rfl rfl rfl rfl rfl (by kernel_rfl) Try.func5 (by kernel_rfl)
    (of_decide_eq_true (by kernel_rfl)) (by unfold Func.isWrapper; first | (rw [if_pos (by decide +kernel)]; kernel_rfl) | (rw [if_neg (by decide +kernel)]; exact ⟨rfl, rfl⟩))
    (fun os started H enc _ => back_lifted os started H enc)
end Go.Proofs.Ytaflpigpeckhoaa
