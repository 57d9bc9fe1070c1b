/-
  A copy of what is known is the same, in memory of its own, and the sectors of it are, too: for every parting and everything known (of lists of up to 100).
  No condition is set.
-/
import Derived.Test.YtaflpigpeckhoaaQMetaOwnA
import Derived.Test.YtaflpigpeckhoaaQMetaLays
namespace Go.Proofs.Ytaflpigpeckhoaa
open Go.RowKit Go.ChangeShapes Go.WideShapes Go.ChangeAt Go.Deep Go.Joins Meta

theorem bk_side {w u : World} {g lo : Nat} {e : TypeId} {xs : List Value} (h : Bk w g e xs) (hs : Side lo w.heap.size w u) (hg : lo ≤ g) : Bk u g e xs := (hs g hg h.lt).trans h
set_option maxRecDepth 100000 in
set_option maxHeartbeats 6400000 in
theorem own_great (j i g p : Int) (m : Meta.Met) (_ho : Okm m) (M0 M1 M2 M3 : Option Addr) (r0 e0 r1 e1 r2 e2 r3 e3 : Nat) (w : World) (_h0 : m.rows.length = r0) (_h1 : m.own.length = r1) (_h2 : m.used.length = r2) (_h3 : m.ino.length = r3) (hl : Lies w w.heap.size ⟨M0, e0, M1, e1, M2, e2, M3, e3⟩ m) (hsm : smallB r0 r1 r2 r3 = false) :
    Calls Try.prog 6 #[.agg #[.int .i64 j, .int .i64 i, .int .i64 g, .int .i64 p], .agg #[.slice M0 r0 e0, .slice M1 r1 e1, .slice M2 r2 e2, .slice M3 r3 e3]] w fun e w' => e = .returned (.bool true) ∧ Below w.heap.size w w' := by
  obtain ⟨W, hW⟩ : ∃ W, W = (w.alloc (.cells #[.int .i64 j, .int .i64 i, .int .i64 g, .int .i64 p] 23)).alloc (.cells #[.slice M0 r0 e0, .slice M1 r1 e1, .slice M2 r2 e2, .slice M3 r3 e3] 29) := ⟨_, rfl⟩
  have hbW : Below w.heap.size w W := by rw [hW]; exact (Below.refl _ _).alloc (Nat.le_refl _) _ |>.alloc (by simp) _
  have hG : Bk W w.heap.size 23 [.int .i64 j, .int .i64 i, .int .i64 g, .int .i64 p] := by rw [hW]; exact (geo_box w j i g p).below (al_below _ _) (by simp)
  have hM : Bk W (w.heap.size + 1) 29 [.slice M0 r0 e0, .slice M1 r1 e1, .slice M2 r2 e2, .slice M3 r3 e3] := by
    rw [hW]
    have := Bk.new (w.alloc (.cells #[.int .i64 j, .int .i64 i, .int .i64 g, .int .i64 p] 23)) 29 [.slice M0 r0 e0, .slice M1 r1 e1, .slice M2 r2 e2, .slice M3 r3 e3]
    simpa using this
  have HG := Lib.hid hG
  have HM := Lib.hid hM
  have HB := Lib.hid hbW
  have HW := Lib.hid hW
  have HLW := Lib.hid (hl.later hbW)
  have HBW := Lib.hid (Below.refl W.heap.size W)
  have HMW : Hid (w.heap.size + 1 < W.heap.size) := Lib.hid hM.lt
  obtain ⟨g0, g1, g2, g3⟩ := four_cells hG
  obtain ⟨q0, q1, q2, q3⟩ := four_cells hM
  have hltg := hG.lt
  have hltm := hM.lt
  have HS : Hid (∀ u : World, Calls Try.prog 10 #[.agg #[.slice M0 r0 e0, .slice M1 r1 e1, .slice M2 r2 e2, .slice M3 r3 e3]] u fun e w' => e = .returned (.bool false) ∧ Below u.heap.size u w') := Lib.hid (fun u => by
    have := small_in M0 M1 M2 M3 r0 e0 r1 e1 r2 e2 r3 e3 u
    rwa [hsm] at this)
  clear hsm hbW hG hM hW hl
  go_enter Try.func6, Try.ntmps6
  go_upto_region 1 with fail
  rw [← HW.out]
  go_wp2_with (first
    | (go_at_call 9; (with_reducible refine (shown_any _).mono ?_); rintro e w1 ⟨he, hb⟩; obtain rfl := he; replace HBW := Lib.hid (HBW.out.trans (hb.mono HBW.out.size)); replace HG := Lib.hid (HG.out.below hb HG.out.lt); replace HM := Lib.hid (HM.out.below hb HM.out.lt); clear g0 g1 g2 g3 q0 q1 q2 q3 hltg hltm hb; obtain ⟨g0, g1, g2, g3⟩ := four_cells HG.out; have hltg := HG.out.lt; obtain ⟨q0, q1, q2, q3⟩ := four_cells HM.out; have hltm := HM.out.lt)
    | (go_at_call 10; (with_reducible refine (HS.out _).mono ?_); rintro e w2 ⟨he, hb⟩; obtain rfl := he; replace HBW := Lib.hid (HBW.out.trans (hb.mono HBW.out.size)); replace HG := Lib.hid (HG.out.below hb HG.out.lt); replace HM := Lib.hid (HM.out.below hb HM.out.lt); clear g0 g1 g2 g3 q0 q1 q2 q3 hltg hltm hb; obtain ⟨g0, g1, g2, g3⟩ := four_cells HG.out; have hltg := HG.out.lt; obtain ⟨q0, q1, q2, q3⟩ := four_cells HM.out; have hltm := HM.out.lt))
  go_ret
  exact ⟨rfl, HB.out.trans (HBW.out.mono HB.out.size)⟩
set_option maxRecDepth 100000 in
set_option maxHeartbeats 12800000 in
theorem own_main (j i g p : Int) (m : Meta.Met) (ho : Okm m) (M0 M1 M2 M3 : Option Addr) (r0 e0 r1 e1 r2 e2 r3 e3 : Nat) (w : World) (h0 : m.rows.length = r0) (h1 : m.own.length = r1) (h2 : m.used.length = r2) (h3 : m.ino.length = r3) (hl : Lies w w.heap.size ⟨M0, e0, M1, e1, M2, e2, M3, e3⟩ m) (hsm : smallB r0 r1 r2 r3 = true) :
    Calls Try.prog 6 #[.agg #[.int .i64 j, .int .i64 i, .int .i64 g, .int .i64 p], .agg #[.slice M0 r0 e0, .slice M1 r1 e1, .slice M2 r2 e2, .slice M3 r3 e3]] w fun e w' => e = .returned (.bool true) ∧ Below w.heap.size w w' := by
  obtain ⟨W, hW⟩ : ∃ W, W = (w.alloc (.cells #[.int .i64 j, .int .i64 i, .int .i64 g, .int .i64 p] 23)).alloc (.cells #[.slice M0 r0 e0, .slice M1 r1 e1, .slice M2 r2 e2, .slice M3 r3 e3] 29) := ⟨_, rfl⟩
  have hbW : Below w.heap.size w W := by rw [hW]; exact (Below.refl _ _).alloc (Nat.le_refl _) _ |>.alloc (by simp) _
  have hG : Bk W w.heap.size 23 [.int .i64 j, .int .i64 i, .int .i64 g, .int .i64 p] := by rw [hW]; exact (geo_box w j i g p).below (al_below _ _) (by simp)
  have hM : Bk W (w.heap.size + 1) 29 [.slice M0 r0 e0, .slice M1 r1 e1, .slice M2 r2 e2, .slice M3 r3 e3] := by
    rw [hW]
    have := Bk.new (w.alloc (.cells #[.int .i64 j, .int .i64 i, .int .i64 g, .int .i64 p] 23)) 29 [.slice M0 r0 e0, .slice M1 r1 e1, .slice M2 r2 e2, .slice M3 r3 e3]
    simpa using this
  have HG := Lib.hid hG
  have HM := Lib.hid hM
  have HB := Lib.hid hbW
  have HW := Lib.hid hW
  have HLW := Lib.hid (hl.later hbW)
  have HBW := Lib.hid (Below.refl W.heap.size W)
  have HMW : Hid (w.heap.size + 1 < W.heap.size) := Lib.hid hM.lt
  obtain ⟨g0, g1, g2, g3⟩ := four_cells hG
  obtain ⟨q0, q1, q2, q3⟩ := four_cells hM
  have hltg := hG.lt
  have hltm := hM.lt
  obtain ⟨s0, s1, s2, s3⟩ := small_yes hsm
  have HS : Hid (∀ u : World, Calls Try.prog 10 #[.agg #[.slice M0 r0 e0, .slice M1 r1 e1, .slice M2 r2 e2, .slice M3 r3 e3]] u fun e w' => e = .returned (.bool true) ∧ Below u.heap.size u w') := Lib.hid (fun u => by
    have := small_in M0 M1 M2 M3 r0 e0 r1 e1 r2 e2 r3 e3 u
    rwa [hsm] at this)
  have HCOPY : Hid (∀ u : World, Below W.heap.size W u → Calls Try.prog 22 #[.agg #[.slice M0 r0 e0, .slice M1 r1 e1, .slice M2 r2 e2, .slice M3 r3 e3]] u fun e w' => ∃ A0 k0 A1 k1 A2 k2 A3 k3, e = .returned (.agg #[.slice A0 r0 k0, .slice A1 r1 k1, .slice A2 r2 k2, .slice A3 r3 k3]) ∧ OwnM w' u.heap.size ⟨A0, k0, A1, k1, A2, k2, A3, k3⟩ m ∧ Below u.heap.size u w') := Lib.hid (fun u hu => by
    have := copy_in m ho M0 M1 M2 M3 r0 e0 r1 e1 r2 e2 r3 e3 u h0 h1 h2 h3 (HLW.out.later hu) (by omega)
    refine this.mono ?_
    rintro e w' ⟨⟨A0, k0, A1, k1, A2, k2, A3, k3⟩, he, ho, hb⟩
    exact ⟨A0, k0, A1, k1, A2, k2, A3, k3, by rw [he, ← h0, ← h1, ← h2, ← h3]; rfl, ho, hb⟩)
  obtain ⟨l, hll⟩ : ∃ l, (layM ⟨j, i, g, p⟩ m).1 = l := ⟨_, rfl⟩
  obtain ⟨er, her⟩ : ∃ er, (layM ⟨j, i, g, p⟩ m).2 = er := ⟨_, rfl⟩
  have hlr : layM ⟨j, i, g, p⟩ m = (l, er) := by rw [← hll, ← her]
  have hlen := layM_len ⟨j, i, g, p⟩ m
  rw [hll] at hlen
  obtain ⟨n, hn⟩ : ∃ n, l.length = n := ⟨_, rfl⟩
  rw [hn] at hlen
  have HLAY : Hid (∀ u : World, Below W.heap.size W u → Calls Try.prog 13 #[.agg #[.int .i64 j, .int .i64 i, .int .i64 g, .int .i64 p], .agg #[.slice M0 r0 e0, .slice M1 r1 e1, .slice M2 r2 e2, .slice M3 r3 e3]] u fun e w' => HandsL u (l, er) e w') := Lib.hid (fun u hu => by
    have := lay_in j i g p m ho M0 M1 M2 M3 r0 e0 r1 e1 r2 e2 r3 e3 u h0 h1 h2 h3 (HLW.out.later hu) (by omega)
    rwa [hlr] at this)
  have HSAME : Hid (∀ (u : World) (A0 A1 A2 A3 : Option Addr) (k0 k1 k2 k3 : Nat), Lies u u.heap.size ⟨A0, k0, A1, k1, A2, k2, A3, k3⟩ m → Below W.heap.size W u → Calls Try.prog 15 #[.agg #[.slice A0 r0 k0, .slice A1 r1 k1, .slice A2 r2 k2, .slice A3 r3 k3], .agg #[.slice M0 r0 e0, .slice M1 r1 e1, .slice M2 r2 e2, .slice M3 r3 e3]] u fun e w' => e = .returned (.bool true) ∧ Below u.heap.size u w') := Lib.hid (fun u A0 A1 A2 A3 k0 k1 k2 k3 hc hu =>
    rsame_in m ho A0 A1 A2 A3 M0 M1 M2 M3 r0 k0 r1 k1 r2 k2 r3 k3 e0 e1 e2 e3 u h0 h1 h2 h3 hc (HLW.out.later hu) (by omega))
  have HSEC : Hid (∀ (u : World) (A1 A2 : Option Addr) (c d : Nat) (L1 L2 : List Sc), SecsAt u u.heap.size A1 L1 l → SecsAt u u.heap.size A2 L2 l → Calls Try.prog 18 #[.slice A1 n c, .slice A2 n d] u fun e w' => e = .returned (.bool true) ∧ Below u.heap.size u w') := Lib.hid (fun u A1 A2 c d L1 L2 h1 h2 => by
    have := rsec_any l l A1 A2 n n c d L1 L2 u hn hn h1 h2 (by omega)
    rwa [show (l == l) = true by simp] at this)
  have HN := Lib.hid hn
  have HIX : Hid (W.heap.size = w.heap.size + 2) := Lib.hid (by rw [hW]; simp)
  have H0 := Lib.hid h0
  have H1 := Lib.hid h1
  have H2 := Lib.hid h2
  have H3 := Lib.hid h3
  have z0 : (0 : Int) ≤ (r0 : Int) := by omega
  clear h0 h1 h2 h3 ho hn hsm hll her hlr hbW hG hM hW hl z0
  go_enter Try.func6, Try.ntmps6
  go_upto_region 1 with fail
  rw [← HW.out]
  go_upto_region 4 with (first
    | (go_at_call 9; (with_reducible refine (shown_any _).mono ?_); rintro e w1 ⟨he, hb⟩; obtain rfl := he; replace HBW := Lib.hid (HBW.out.trans (hb.mono HBW.out.size)); replace HG := Lib.hid (HG.out.below hb HG.out.lt); replace HM := Lib.hid (HM.out.below hb HM.out.lt); clear g0 g1 g2 g3 q0 q1 q2 q3 hltg hltm hb; obtain ⟨g0, g1, g2, g3⟩ := four_cells HG.out; have hltg := HG.out.lt; obtain ⟨q0, q1, q2, q3⟩ := four_cells HM.out; have hltm := HM.out.lt)
    | (go_at_call 10; (with_reducible refine (HS.out _).mono ?_); rintro e w2 ⟨he, hb⟩; obtain rfl := he; replace HBW := Lib.hid (HBW.out.trans (hb.mono HBW.out.size)); replace HG := Lib.hid (HG.out.below hb HG.out.lt); replace HM := Lib.hid (HM.out.below hb HM.out.lt); clear g0 g1 g2 g3 q0 q1 q2 q3 hltg hltm hb; obtain ⟨g0, g1, g2, g3⟩ := four_cells HG.out; have hltg := HG.out.lt; obtain ⟨q0, q1, q2, q3⟩ := four_cells HM.out; have hltm := HM.out.lt))
  have HMw2 : Hid (W.heap.size ≤ w2.heap.size) := Lib.hid HBW.out.size
  go_upto_region 5 with (go_at_call 22; (with_reducible refine (HCOPY.out _ HBW.out).mono ?_); rintro e w3 hh; obtain ⟨A0, k0, A1, k1, A2, k2, A3, k3, he, ho2, hb⟩ := hh; obtain rfl := he; replace HBW := Lib.hid (HBW.out.trans (hb.mono HBW.out.size)); replace HG := Lib.hid (HG.out.below hb HG.out.lt); replace HM := Lib.hid (HM.out.below hb HM.out.lt); have HC := Lib.hid ho2; clear ho2; have HZw3 := Lib.hid hb.size; clear g0 g1 g2 g3 q0 q1 q2 q3 hltg hltm hb; obtain ⟨g0, g1, g2, g3⟩ := four_cells HG.out; have hltg := HG.out.lt; obtain ⟨q0, q1, q2, q3⟩ := four_cells HM.out; have hltm := HM.out.lt)
  have hal := al_below w3 (.cells #[.slice A0 r0 k0, .slice A1 r1 k1, .slice A2 r2 k2, .slice A3 r3 k3] 29)
  replace HBW := Lib.hid (HBW.out.trans (hal.mono HBW.out.size))
  replace HG := Lib.hid (HG.out.below hal HG.out.lt)
  replace HM := Lib.hid (HM.out.below hal HM.out.lt)
  have HB3 := Lib.hid hal
  have HZU3 := Lib.hid hal.size
  have HIU3 : Hid (w3.heap.size < (w3.alloc (.cells #[.slice A0 r0 k0, .slice A1 r1 k1, .slice A2 r2 k2, .slice A3 r3 k3] 29)).heap.size) := Lib.hid (by simp)
  have HV := Lib.hid (Bk.new w3 29 [.slice A0 r0 k0, .slice A1 r1 k1, .slice A2 r2 k2, .slice A3 r3 k3])
  clear g0 g1 g2 g3 q0 q1 q2 q3 hltg hltm hal
  generalize w3.alloc (.cells #[.slice A0 r0 k0, .slice A1 r1 k1, .slice A2 r2 k2, .slice A3 r3 k3] 29) = U3 at *
  obtain ⟨g0, g1, g2, g3⟩ := four_cells HG.out
  have hltg := HG.out.lt
  obtain ⟨q0, q1, q2, q3⟩ := four_cells HM.out
  have hltm := HM.out.lt
  obtain ⟨x0, x1, x2, x3⟩ := four_cells HV.out
  have HMU3 : Hid (W.heap.size ≤ U3.heap.size) := Lib.hid HBW.out.size
  go_upto_region 6 with (go_at_call 22; (with_reducible refine (HCOPY.out _ HBW.out).mono ?_); rintro e w4 hh; obtain ⟨B0, d0, B1, d1, B2, d2, B3, d3, he, ho2, hb⟩ := hh; obtain rfl := he; replace HBW := Lib.hid (HBW.out.trans (hb.mono HBW.out.size)); replace HG := Lib.hid (HG.out.below hb HG.out.lt); replace HM := Lib.hid (HM.out.below hb HM.out.lt); replace HV := Lib.hid (HV.out.below hb HV.out.lt); replace HB3 := Lib.hid (HB3.out.trans (hb.mono HB3.out.size)); have HD := Lib.hid ho2; clear ho2; have HZw4 := Lib.hid hb.size; clear g0 g1 g2 g3 q0 q1 q2 q3 x0 x1 x2 x3 hltg hltm hb; obtain ⟨g0, g1, g2, g3⟩ := four_cells HG.out; have hltg := HG.out.lt; obtain ⟨q0, q1, q2, q3⟩ := four_cells HM.out; have hltm := HM.out.lt; obtain ⟨x0, x1, x2, x3⟩ := four_cells HV.out)
  have hal := al_below w4 (.cells #[.slice B0 r0 d0, .slice B1 r1 d1, .slice B2 r2 d2, .slice B3 r3 d3] 29)
  replace HBW := Lib.hid (HBW.out.trans (hal.mono HBW.out.size))
  replace HG := Lib.hid (HG.out.below hal HG.out.lt)
  replace HM := Lib.hid (HM.out.below hal HM.out.lt)
  replace HV := Lib.hid (HV.out.below hal HV.out.lt)
  replace HB3 := Lib.hid (HB3.out.trans (hal.mono HB3.out.size))
  have HB4 := Lib.hid hal
  have HZU4 := Lib.hid hal.size
  have HIU4 : Hid (w4.heap.size < (w4.alloc (.cells #[.slice B0 r0 d0, .slice B1 r1 d1, .slice B2 r2 d2, .slice B3 r3 d3] 29)).heap.size) := Lib.hid (by simp)
  have HVD := Lib.hid (Bk.new w4 29 [.slice B0 r0 d0, .slice B1 r1 d1, .slice B2 r2 d2, .slice B3 r3 d3])
  clear g0 g1 g2 g3 q0 q1 q2 q3 x0 x1 x2 x3 hltg hltm hal
  generalize w4.alloc (.cells #[.slice B0 r0 d0, .slice B1 r1 d1, .slice B2 r2 d2, .slice B3 r3 d3] 29) = U4 at *
  obtain ⟨g0, g1, g2, g3⟩ := four_cells HG.out
  have hltg := HG.out.lt
  obtain ⟨q0, q1, q2, q3⟩ := four_cells HM.out
  have hltm := HM.out.lt
  obtain ⟨x0, x1, x2, x3⟩ := four_cells HV.out
  obtain ⟨y0, y1, y2, y3⟩ := four_cells HVD.out
  go_upto_region 9 with (first
    | (go_at_call 15; (with_reducible refine (HSAME.out _ _ _ _ _ _ _ _ _ ((HC.out.below HB3.out).lies) HBW.out).mono ?_); rintro e w5 ⟨he, hb⟩; obtain rfl := he; replace HBW := Lib.hid (HBW.out.trans (hb.mono HBW.out.size)); replace HG := Lib.hid (HG.out.below hb HG.out.lt); replace HM := Lib.hid (HM.out.below hb HM.out.lt); replace HV := Lib.hid (HV.out.below hb HV.out.lt); replace HB3 := Lib.hid (HB3.out.trans (hb.mono HB3.out.size)); replace HVD := Lib.hid (HVD.out.below hb HVD.out.lt); replace HB4 := Lib.hid (HB4.out.trans (hb.mono HB4.out.size)); have HZw5 := Lib.hid hb.size; clear g0 g1 g2 g3 q0 q1 q2 q3 x0 x1 x2 x3 y0 y1 y2 y3 hltg hltm hb; obtain ⟨g0, g1, g2, g3⟩ := four_cells HG.out; have hltg := HG.out.lt; obtain ⟨q0, q1, q2, q3⟩ := four_cells HM.out; have hltm := HM.out.lt; obtain ⟨x0, x1, x2, x3⟩ := four_cells HV.out; obtain ⟨y0, y1, y2, y3⟩ := four_cells HVD.out)
    | (go_at_call 13; (with_reducible refine (HLAY.out _ HBW.out).mono ?_); rintro e w6 hh; obtain ⟨C1, c1, L1, he, hso, -, -, -, hb⟩ := hh.got; rw [HN.out] at he; obtain rfl := he; replace HBW := Lib.hid (HBW.out.trans (hb.mono HBW.out.size)); replace HG := Lib.hid (HG.out.below hb HG.out.lt); replace HM := Lib.hid (HM.out.below hb HM.out.lt); replace HV := Lib.hid (HV.out.below hb HV.out.lt); replace HB3 := Lib.hid (HB3.out.trans (hb.mono HB3.out.size)); replace HVD := Lib.hid (HVD.out.below hb HVD.out.lt); replace HB4 := Lib.hid (HB4.out.trans (hb.mono HB4.out.size)); have HL6 := Lib.hid hso; have HLL := Lib.hid hso; clear hso; have HZw6 := Lib.hid hb.size; clear g0 g1 g2 g3 q0 q1 q2 q3 x0 x1 x2 x3 y0 y1 y2 y3 hltg hltm hb; obtain ⟨g0, g1, g2, g3⟩ := four_cells HG.out; have hltg := HG.out.lt; obtain ⟨q0, q1, q2, q3⟩ := four_cells HM.out; have hltm := HM.out.lt; obtain ⟨x0, x1, x2, x3⟩ := four_cells HV.out; obtain ⟨y0, y1, y2, y3⟩ := four_cells HVD.out))
  go_upto_region 10 with (go_at_call 13; (with_reducible refine (HLAY.out _ HBW.out).mono ?_); rintro e w7 hh; obtain ⟨C2, c2, L2, he, hso, -, -, -, hb⟩ := hh.got; rw [HN.out] at he; obtain rfl := he; replace HBW := Lib.hid (HBW.out.trans (hb.mono HBW.out.size)); replace HG := Lib.hid (HG.out.below hb HG.out.lt); replace HM := Lib.hid (HM.out.below hb HM.out.lt); replace HV := Lib.hid (HV.out.below hb HV.out.lt); replace HB3 := Lib.hid (HB3.out.trans (hb.mono HB3.out.size)); replace HVD := Lib.hid (HVD.out.below hb HVD.out.lt); replace HB4 := Lib.hid (HB4.out.trans (hb.mono HB4.out.size)); replace HLL := Lib.hid (HLL.out.below hb); have HK := Lib.hid hso; clear hso; have HZw7 := Lib.hid hb.size; clear g0 g1 g2 g3 q0 q1 q2 q3 x0 x1 x2 x3 y0 y1 y2 y3 hltg hltm hb; obtain ⟨g0, g1, g2, g3⟩ := four_cells HG.out; have hltg := HG.out.lt; obtain ⟨q0, q1, q2, q3⟩ := four_cells HM.out; have hltm := HM.out.lt; obtain ⟨x0, x1, x2, x3⟩ := four_cells HV.out; obtain ⟨y0, y1, y2, y3⟩ := four_cells HVD.out)
  clear g0 g1 g2 g3 q0 q1 q2 q3 x0 x1 x2 x3 y0 y1 y2 y3 hltg hltm
  have HLTS := Lib.hid (lots_of HLL.out)
  go_wp2
  go_loopw [12, 13, 47] (fun _ _ k wr => ∃ a : Nat, k = .int .i64 (a : Int) ∧ a ≤ n ∧ Hid (Below w5.heap.size w7 wr) ∧ Hid (Side w6.heap.size w7.heap.size w7 wr) ∧ Hid (Lots wr w5.heap.size (.slice C1 n c1) L1 l)) (fun _ _ k _ => n - (intOf k).toNat)
  case atStart => exact ⟨0, rfl, Nat.zero_le _, Lib.hid (Below.refl _ _), Lib.hid (Side.refl _ _ _), by rw [← HN.out]; exact HLTS⟩
  case round =>
    obtain ⟨a, rfl, ha, HBR, HSR, HLT⟩ := hrel
    by_cases hlt : a < n
    · have hal : a < l.length := by rw [HN.out]; exact hlt
      obtain ⟨go, sc, hA, hsL, hcx, hfx, b, hbl, hob⟩ := HLT.out.get hal
      subst hA
      obtain ⟨q, hq⟩ : ∃ q, (l.getD a []).length = q := ⟨_, rfl⟩
      rw [hq] at hcx hbl hob
      have HQ := Lib.hid hq
      have hq63 : q ≤ sc.c ∧ sc.c ≤ maxLen := ⟨(own_rdk hob).1, (own_rdk hob).2.1⟩
      have hb63 : q ≤ 9223372036854775807 := by have := hq63.2; have := hq63.1; unfold maxLen at *; omega
      have HSL := Lib.hid hsL
      have hlti : (a : Int) < (n : Int) := by omega
      have hi0 : (0 : Int) ≤ (a : Int) := by omega
      have hiw : IntKind.i64.wrap ((a : Int) + 1) = ((a + 1 : Nat) : Int) := by rw [IntKind.wrap_i64]; omega
      clear hob hbl hsL hq hq63
      go_wp2_with fail
      clear hcx hfx
      go_loopw [13, 55] (fun _ k wr2 => ∃ t : Nat, k = .int .i64 (t : Int) ∧ t ≤ q ∧ Hid (Below w5.heap.size w7 wr2) ∧ Hid (Side w6.heap.size w7.heap.size w7 wr2) ∧ Hid (Lots wr2 w5.heap.size (.slice (some ⟨go, 0, none⟩) n c1) L1 l)) (fun _ k _ => q - (intOf k).toNat)
      case atStart => exact ⟨0, rfl, Nat.zero_le _, HBR, HSR, HLT⟩
      case round =>
        obtain ⟨t, rfl, ht, HBR, HSR, HLT⟩ := hrel
        by_cases htl : t < q
        · obtain ⟨go2, sc2, hA2, hsL2, hcx, hfx, b, hbl, hob⟩ := HLT.out.get hal
          obtain rfl : sc = sc2 := by
            have := HSL.out
            rw [hsL2] at this
            injection this with this
            exact this.symm
          injection hA2 with hA2
          injection hA2 with hA2
          subst hA2
          rw [HQ.out] at hcx hbl hob
          obtain ⟨y, hy⟩ : ∃ y, b[t]? = some y := ⟨_, List.getElem?_eq_getElem (by rw [hbl]; exact htl)⟩
          obtain ⟨ga, hga, -, -⟩ := own_at hob (by omega)
          have hg6 := own_at (HL6.out.each a sc (l.getD a []) hsL2 (by rw [List.getD_eq_getElem?_getD, List.getElem?_eq_getElem hal]; rfl)) (by rw [HQ.out]; omega)
          obtain ⟨ga', hga', hg61, hg62⟩ := hg6
          rw [hga] at hga'
          injection hga' with hga'
          injection hga' with hga'
          subst hga'
          rw [hga] at hcx hob
          have hcy : wr.cell? ⟨ga, t, none⟩ = some (.int .u8 (y.toNat : Int)) := by
            rw [hob.cellAt t (by omega), bytesV, List.getElem?_map, hy]; rfl
          have hfy := hob.frozenAt t
          have hxo := xor_85 y
          obtain ⟨y', hy'⟩ : ∃ y', y ^^^ 85 = y' := ⟨_, rfl⟩
          rw [hy'] at hxo
          have HLT6 := Lib.hid (HLT.out.stored hob t y')
          have HBR6 := Lib.hid (HBR.out.setCell (p := ⟨ga, t, none⟩) hg61 (.int .u8 (y'.toNat : Int)))
          have HSR6 := Lib.hid (HSR.out.set ⟨ga, t, none⟩ (.int .u8 (y'.toNat : Int)) (.inl hg62))
          have htli : (t : Int) < (q : Int) := by omega
          have ht0 : (0 : Int) ≤ (t : Int) := by omega
          have htw : IntKind.i64.wrap ((t : Int) + 1) = ((t + 1 : Nat) : Int) := by rw [IntKind.wrap_i64]; omega
          clear hsL2 hbl hob hy hg61 hg62 hga hy' HBR HSR HLT
          go_wp2_with fail
          go_roundw
          case rel => exact ⟨t + 1, by first | rfl | (congr 1), htl, HBR6, HSR6, HLT6⟩
          case measure => simp [intOf]; omega
        · obtain rfl : t = q := by omega
          go_wp2_with fail
          go_roundw
          case rel => exact ⟨a + 1, by first | rfl | (congr 1), hlt, HBR, HSR, HLT⟩
          case measure => simp [intOf]; omega
    · obtain rfl : n = a := by omega
      clear hlt ha
      have hb5 := HBR.out
      have zz : W.heap.size ≤ w2.heap.size ∧ w2.heap.size ≤ w3.heap.size ∧ w3.heap.size ≤ U3.heap.size ∧ w3.heap.size < U3.heap.size ∧ U3.heap.size ≤ w4.heap.size ∧ w4.heap.size ≤ U4.heap.size ∧ w4.heap.size < U4.heap.size ∧ U4.heap.size ≤ w5.heap.size ∧ w5.heap.size ≤ w6.heap.size ∧ w6.heap.size ≤ w7.heap.size ∧ W.heap.size = w.heap.size + 2 := ⟨HMw2.out, HZw3.out, HZU3.out, HIU3.out, HZw4.out, HZU4.out, HIU4.out, HZw5.out, HZw6.out, HZw7.out, HIX.out⟩
      have HZZ := Lib.hid zz
      replace HBW : Hid (Below W.heap.size W wr) := Lib.hid (HBW.out.trans (hb5.mono (by omega)))
      replace HG := Lib.hid (HG.out.below hb5 (by omega))
      replace HM := Lib.hid (HM.out.below hb5 (by omega))
      replace HV := Lib.hid (HV.out.below hb5 (by omega))
      replace HVD := Lib.hid (HVD.out.below hb5 (by omega))
      replace HB3 : Hid (Below w3.heap.size w3 wr) := Lib.hid (HB3.out.trans (hb5.mono (by omega)))
      replace HB4 : Hid (Below w4.heap.size w4 wr) := Lib.hid (HB4.out.trans (hb5.mono (by omega)))
      have HCR : Hid (Crow wr w2.heap.size ⟨A0, k0, A1, k1, A2, k2, A3, k3⟩ r0 r1 r2 r3) := Lib.hid (by
        have := crow_of (HC.out.below HB3.out)
        rwa [H0.out, H1.out, H2.out, H3.out] at this)
      have HD8 := Lib.hid ((HD.out.below HB4.out).base (base' := w3.heap.size) (by omega))
      have HK8 := Lib.hid ((HK.out.side HSR.out).base (base' := w3.heap.size) (by omega))
      have HBR0 := Lib.hid (Below.refl w2.heap.size wr)
      have HSR0 := Lib.hid (Side.refl w3.heap.size wr.heap.size wr)
      clear hb5 zz HBR HSR HLT HLTS HLL HL6 HD HK HB3 HB4 HZw3 HZU3 HIU3 HZw4 HZU4 HIU4 HZw5 HZw6 HZw7 HMw2 HMU3
      generalize wr = w8 at *
      have HBR := HBR0
      have HSR := HSR0
      clear HBR0 HSR0
      obtain ⟨x0, x1, x2, x3⟩ := four_cells HV.out
      go_wp2_with fail
      clear x0 x1 x2 x3
      go_loopw [14, 72] (fun _ k wr => ∃ a : Nat, k = .int .i64 (a : Int) ∧ a ≤ r0 ∧ Hid (Below w2.heap.size w8 wr) ∧ Hid (Side w3.heap.size w8.heap.size w8 wr) ∧ Hid (Crow wr w2.heap.size ⟨A0, k0, A1, k1, A2, k2, A3, k3⟩ r0 r1 r2 r3)) (fun _ k _ => r0 - (intOf k).toNat)
      case atStart => exact ⟨0, rfl, Nat.zero_le _, HBR, HSR, HCR⟩
      case round =>
        clear HBR HSR HCR
        obtain ⟨a, rfl, ha, HBR, HSR, HCR⟩ := hrel
        by_cases hlt : a < r0
        · have HAL := Lib.hid HC.out.rows
          rw [H0.out] at HAL
          obtain ⟨ga, hga, hg1, hg2⟩ := own_at HAL.out (by omega)
          clear HAL
          have hga : A0 = some ⟨ga, 0, none⟩ := hga
          subst hga
          obtain ⟨x0, x1, x2, x3⟩ := four_cells (bk_side HV.out HSR.out (Nat.le_refl _))
          obtain ⟨xs, hx⟩ := HCR.out.rows
          obtain ⟨⟨v, hv⟩, hf⟩ := own_one hx (a * 2 + 1) (by omega)
          have HBR6 := Lib.hid (HBR.out.setCell (p := ⟨ga, a * 2 + 1, none⟩) hg1 (.int .i64 (-7)))
          have HSR6 := Lib.hid (HSR.out.set ⟨ga, a * 2 + 1, none⟩ (.int .i64 (-7)) (.inl hg2))
          have HCR6 := Lib.hid (HCR.out.row rfl (a * 2 + 1) (.int .i64 (-7)))
          have hlti : (a : Int) < (r0 : Int) := by omega
          have hi0 : (0 : Int) ≤ (a : Int) := by omega
          have hiw : IntKind.i64.wrap ((a : Int) + 1) = ((a + 1 : Nat) : Int) := by rw [IntKind.wrap_i64]; omega
          clear hx hg1 hg2 HBR HSR HCR
          go_wp2_with fail
          go_roundw
          case rel => exact ⟨a + 1, by first | rfl | (congr 1), hlt, HBR6, HSR6, HCR6⟩
          case measure => simp [intOf]; omega
        · obtain rfl : r0 = a := by omega
          clear hlt ha
          obtain ⟨x0, x1, x2, x3⟩ := four_cells (bk_side HV.out HSR.out (Nat.le_refl _))
          go_wp2_with fail
          clear x0 x1 x2 x3
          generalize wr = v1 at *
          go_loopw [15, 84] (fun _ k wr => ∃ a : Nat, k = .int .i64 (a : Int) ∧ a ≤ r1 ∧ Hid (Below w2.heap.size w8 wr) ∧ Hid (Side w3.heap.size w8.heap.size w8 wr) ∧ Hid (Crow wr w2.heap.size ⟨A0, k0, A1, k1, A2, k2, A3, k3⟩ r0 r1 r2 r3)) (fun _ k _ => r1 - (intOf k).toNat)
          case atStart => exact ⟨0, rfl, Nat.zero_le _, HBR, HSR, HCR⟩
          case round =>
            clear HBR HSR HCR
            obtain ⟨a, rfl, ha, HBR, HSR, HCR⟩ := hrel
            by_cases hlt : a < r1
            · have HAL := Lib.hid HC.out.own
              rw [H1.out] at HAL
              obtain ⟨ga, hga, hg1, hg2⟩ := own_at HAL.out (by omega)
              clear HAL
              have hga : A1 = some ⟨ga, 0, none⟩ := hga
              subst hga
              obtain ⟨x0, x1, x2, x3⟩ := four_cells (bk_side HV.out HSR.out (Nat.le_refl _))
              obtain ⟨xs, hx⟩ := HCR.out.own
              obtain ⟨⟨v, hv⟩, hf⟩ := own_one hx (a) (by omega)
              have HBR6 := Lib.hid (HBR.out.setCell (p := ⟨ga, a, none⟩) hg1 (.int .i64 (-7)))
              have HSR6 := Lib.hid (HSR.out.set ⟨ga, a, none⟩ (.int .i64 (-7)) (.inl hg2))
              have HCR6 := Lib.hid (HCR.out.owner rfl (a) (.int .i64 (-7)))
              have hlti : (a : Int) < (r1 : Int) := by omega
              have hi0 : (0 : Int) ≤ (a : Int) := by omega
              have hiw : IntKind.i64.wrap ((a : Int) + 1) = ((a + 1 : Nat) : Int) := by rw [IntKind.wrap_i64]; omega
              clear hx hg1 hg2 HBR HSR HCR
              go_wp2_with fail
              go_roundw
              case rel => exact ⟨a + 1, by first | rfl | (congr 1), hlt, HBR6, HSR6, HCR6⟩
              case measure => simp [intOf]; omega
            · obtain rfl : r1 = a := by omega
              clear hlt ha
              obtain ⟨x0, x1, x2, x3⟩ := four_cells (bk_side HV.out HSR.out (Nat.le_refl _))
              go_wp2_with fail
              clear x0 x1 x2 x3
              generalize wr = v2 at *
              go_loopw [16, 95] (fun _ k wr => ∃ a : Nat, k = .int .i64 (a : Int) ∧ a ≤ r2 ∧ Hid (Below w2.heap.size w8 wr) ∧ Hid (Side w3.heap.size w8.heap.size w8 wr) ∧ Hid (Crow wr w2.heap.size ⟨A0, k0, A1, k1, A2, k2, A3, k3⟩ r0 r1 r2 r3)) (fun _ k _ => r2 - (intOf k).toNat)
              case atStart => exact ⟨0, rfl, Nat.zero_le _, HBR, HSR, HCR⟩
              case round =>
                clear HBR HSR HCR
                obtain ⟨a, rfl, ha, HBR, HSR, HCR⟩ := hrel
                by_cases hlt : a < r2
                · have HAL := Lib.hid HC.out.used
                  rw [H2.out] at HAL
                  obtain ⟨ga, hga, hg1, hg2⟩ := own_at HAL.out (by omega)
                  clear HAL
                  have hga : A2 = some ⟨ga, 0, none⟩ := hga
                  subst hga
                  obtain ⟨x0, x1, x2, x3⟩ := four_cells (bk_side HV.out HSR.out (Nat.le_refl _))
                  obtain ⟨b, hbl, hx⟩ := HCR.out.used
                  obtain ⟨y, hy⟩ : ∃ y, b[a]? = some y := ⟨_, List.getElem?_eq_getElem (by rw [hbl]; exact hlt)⟩
                  have hv : wr.cell? ⟨ga, a, none⟩ = some (.int .u8 (y.toNat : Int)) := by rw [hx.cellAt a (by omega), bytesV, List.getElem?_map, hy]; rfl
                  have hf := hx.frozenAt a
                  have hxo := xor_85 y
                  obtain ⟨y', hy'⟩ : ∃ y', y ^^^ 85 = y' := ⟨_, rfl⟩
                  rw [hy'] at hxo
                  clear hy' hy hbl
                  have HBR6 := Lib.hid (HBR.out.setCell (p := ⟨ga, a, none⟩) hg1 (.int .u8 (y'.toNat : Int)))
                  have HSR6 := Lib.hid (HSR.out.set ⟨ga, a, none⟩ (.int .u8 (y'.toNat : Int)) (.inl hg2))
                  have HCR6 := Lib.hid (HCR.out.byte rfl (a) y')
                  have hlti : (a : Int) < (r2 : Int) := by omega
                  have hi0 : (0 : Int) ≤ (a : Int) := by omega
                  have hiw : IntKind.i64.wrap ((a : Int) + 1) = ((a + 1 : Nat) : Int) := by rw [IntKind.wrap_i64]; omega
                  clear hx hg1 hg2 HBR HSR HCR
                  go_wp2_with fail
                  go_roundw
                  case rel => exact ⟨a + 1, by first | rfl | (congr 1), hlt, HBR6, HSR6, HCR6⟩
                  case measure => simp [intOf]; omega
                · obtain rfl : r2 = a := by omega
                  clear hlt ha
                  obtain ⟨x0, x1, x2, x3⟩ := four_cells (bk_side HV.out HSR.out (Nat.le_refl _))
                  go_wp2_with fail
                  clear x0 x1 x2 x3
                  generalize wr = v3 at *
                  go_loopw [17, 109] (fun _ k wr => ∃ a : Nat, k = .int .i64 (a : Int) ∧ a ≤ r3 ∧ Hid (Below w2.heap.size w8 wr) ∧ Hid (Side w3.heap.size w8.heap.size w8 wr) ∧ Hid (Crow wr w2.heap.size ⟨A0, k0, A1, k1, A2, k2, A3, k3⟩ r0 r1 r2 r3)) (fun _ k _ => r3 - (intOf k).toNat)
                  case atStart => exact ⟨0, rfl, Nat.zero_le _, HBR, HSR, HCR⟩
                  case round =>
                    clear HBR HSR HCR
                    obtain ⟨a, rfl, ha, HBR, HSR, HCR⟩ := hrel
                    by_cases hlt : a < r3
                    · have HAL := Lib.hid HC.out.ino
                      rw [H3.out] at HAL
                      obtain ⟨ga, hga, hg1, hg2⟩ := own_at HAL.out (by omega)
                      clear HAL
                      have hga : A3 = some ⟨ga, 0, none⟩ := hga
                      subst hga
                      obtain ⟨x0, x1, x2, x3⟩ := four_cells (bk_side HV.out HSR.out (Nat.le_refl _))
                      obtain ⟨xs, hx⟩ := HCR.out.ino
                      obtain ⟨⟨v, hv⟩, hf⟩ := own_one hx (a * 14 + 3) (by omega)
                      have HBR6 := Lib.hid (HBR.out.setCell (p := ⟨ga, a * 14 + 3, none⟩) hg1 (.int .i64 (-7)))
                      have HSR6 := Lib.hid (HSR.out.set ⟨ga, a * 14 + 3, none⟩ (.int .i64 (-7)) (.inl hg2))
                      have HCR6 := Lib.hid (HCR.out.inode rfl (a * 14 + 3) (.int .i64 (-7)))
                      have hlti : (a : Int) < (r3 : Int) := by omega
                      have hi0 : (0 : Int) ≤ (a : Int) := by omega
                      have hiw : IntKind.i64.wrap ((a : Int) + 1) = ((a + 1 : Nat) : Int) := by rw [IntKind.wrap_i64]; omega
                      clear hx hg1 hg2 HBR HSR HCR
                      go_wp2_with fail
                      go_roundw
                      case rel => exact ⟨a + 1, by first | rfl | (congr 1), hlt, HBR6, HSR6, HCR6⟩
                      case measure => simp [intOf]; omega
                    · obtain rfl : r3 = a := by omega
                      clear hlt ha
                      have zz := HZZ.out
                      replace HBW : Hid (Below W.heap.size W wr) := Lib.hid (HBW.out.trans (HBR.out.mono (by omega)))
                      replace HG := Lib.hid (HG.out.below HBR.out (by omega))
                      replace HM := Lib.hid (HM.out.below HBR.out (by omega))
                      replace HVD := Lib.hid (bk_side HVD.out HSR.out (by omega))
                      have HD9 := Lib.hid (HD8.out.side HSR.out)
                      have HT2 := Lib.hid (HK8.out.side HSR.out).at_.2.2.2
                      clear zz HD8 HK8 HBR HSR HCR HV HC
                      generalize wr = wA at *
                      obtain ⟨g0, g1, g2, g3⟩ := four_cells HG.out
                      obtain ⟨q0, q1, q2, q3⟩ := four_cells HM.out
                      obtain ⟨y0, y1, y2, y3⟩ := four_cells HVD.out
                      have hltg := HG.out.lt
                      have hltm := HM.out.lt
                      go_upto_region 40 with (go_at_call 13; (with_reducible refine (HLAY.out _ HBW.out).mono ?_); rintro e wB hh; obtain ⟨C3, c3, L3, he, -, -, -, hsa, hb⟩ := hh.got; rw [HN.out] at he; obtain rfl := he; replace HBW := Lib.hid (HBW.out.trans (hb.mono HBW.out.size)); replace HG := Lib.hid (HG.out.below hb HG.out.lt); replace HM := Lib.hid (HM.out.below hb HM.out.lt); replace HVD := Lib.hid (HVD.out.below hb HVD.out.lt); replace HD9 := Lib.hid (HD9.out.below hb); replace HT2 := Lib.hid (HT2.out.later hb); have HT1 := Lib.hid hsa; clear hsa; clear g0 g1 g2 g3 q0 q1 q2 q3 y0 y1 y2 y3 hltg hltm hb; obtain ⟨g0, g1, g2, g3⟩ := four_cells HG.out; have hltg := HG.out.lt; obtain ⟨q0, q1, q2, q3⟩ := four_cells HM.out; have hltm := HM.out.lt; obtain ⟨y0, y1, y2, y3⟩ := four_cells HVD.out)
                      have hee : ((er : Int) == (er : Int)) = true := by simp
                      go_wp2_with (first
                        | (go_at_call 15; (with_reducible refine (HSAME.out _ _ _ _ _ _ _ _ _ (HD9.out.lies) HBW.out).mono ?_); rintro e wC ⟨he, hb⟩; obtain rfl := he; replace HBW := Lib.hid (HBW.out.trans (hb.mono HBW.out.size)); replace HG := Lib.hid (HG.out.below hb HG.out.lt); replace HM := Lib.hid (HM.out.below hb HM.out.lt); replace HVD := Lib.hid (HVD.out.below hb HVD.out.lt); replace HD9 := Lib.hid (HD9.out.below hb); replace HT2 := Lib.hid (HT2.out.later hb); replace HT1 := Lib.hid (HT1.out.later hb); clear g0 g1 g2 g3 q0 q1 q2 q3 y0 y1 y2 y3 hltg hltm hb; obtain ⟨g0, g1, g2, g3⟩ := four_cells HG.out; have hltg := HG.out.lt; obtain ⟨q0, q1, q2, q3⟩ := four_cells HM.out; have hltm := HM.out.lt; obtain ⟨y0, y1, y2, y3⟩ := four_cells HVD.out)
                        | (go_at_call 18; (with_reducible refine (HSEC.out _ _ _ _ _ _ _ HT1.out HT2.out).mono ?_); rintro e wD ⟨he, hb⟩; obtain rfl := he; replace HBW := Lib.hid (HBW.out.trans (hb.mono HBW.out.size)); replace HG := Lib.hid (HG.out.below hb HG.out.lt); replace HM := Lib.hid (HM.out.below hb HM.out.lt); replace HVD := Lib.hid (HVD.out.below hb HVD.out.lt); replace HD9 := Lib.hid (HD9.out.below hb); replace HT2 := Lib.hid (HT2.out.later hb); replace HT1 := Lib.hid (HT1.out.later hb); clear g0 g1 g2 g3 q0 q1 q2 q3 y0 y1 y2 y3 hltg hltm hb; obtain ⟨g0, g1, g2, g3⟩ := four_cells HG.out; have hltg := HG.out.lt; obtain ⟨q0, q1, q2, q3⟩ := four_cells HM.out; have hltm := HM.out.lt; obtain ⟨y0, y1, y2, y3⟩ := four_cells HVD.out))
                      go_ret
                      exact ⟨rfl, HB.out.trans (HBW.out.mono HB.out.size)⟩
theorem own_walk (j i g p : Int) (x : Mem) (m : Meta.Met) (ho : Okm m) (w : World) (hl : Lies w w.heap.size x m) : Calls Try.prog 6 #[.agg #[.int .i64 j, .int .i64 i, .int .i64 g, .int .i64 p], x.v m] w fun e w' => e = .returned (.bool true) ∧ Below w.heap.size w w' := by
  cases hsm : smallB m.rows.length m.own.length m.used.length m.ino.length with
  | false => exact own_great j i g p m ho x.rA x.oA x.uA x.iA _ x.rc _ x.oc _ x.uc _ x.ic w rfl rfl rfl rfl hl hsm
  | true => exact own_main j i g p m ho x.rA x.oA x.uA x.iA _ x.rc _ x.oc _ x.uc _ x.ic w rfl rfl rfl rfl hl hsm

set_option maxRecDepth 100000 in
theorem own_contract (H : Type) (enc : TypeId × Value → H) (W : World) (base : Nat) (args : Array Value) (ds gs : List (DataW H)) (before : List MemPlace)
    (hval : ∀ (j : Nat) t v, Try.f6.params[j]? = some t → args[j]? = some v → Value.okWide Try.prog W .any base t v)
    (hW : DataW.Whole enc Try.prog Try.f6.params.toList Rows.metaOwnSpec.vars false W args.toList ds gs before) :
    Calls Try.prog 6 args W fun e W' => ∃ v, e = .returned v ∧ Rows.metaOwnSpec.post enc Try.prog Try.f6 false true false false W args v W' := by
  have hW' := hW
  have hlt : ∀ x ∈ before, x.block < W.heap.size := fun x hx => hW.lt x hx
  obtain ⟨p, q, hA0, hV, rfl, _, _⟩ := hW
  have hA : DataW.TrodAll enc Try.prog W 0 (fun _ => true) true Try.f6.params.toList args.toList ds p := hA0
  rw [Try.params6] at hA hval
  obtain ⟨v0, vs0, d0, ds0, p0, q0, hargs, rfl, rfl, h0, r0⟩ := trodAll_cons hA
  obtain ⟨v1, vs1, d1, ds1, p1, q1, rfl, rfl, rfl, h1, r1⟩ := trodAll_cons r0
  obtain ⟨rfl, rfl, rfl⟩ := trodAll_nil r1
  obtain rfl : args = #[v0, v1] := by cases args; simp_all
  obtain ⟨rfl, rfl⟩ := trodVars_none hV
  clear hA0
  obtain ⟨j0, i0, g0, p0, rfl, bj0, bi0, bg0, bp0⟩ := open_geo (hval 0 23 v0 rfl rfl) h0
  obtain ⟨x1, m1, rfl, ho1, hl1⟩ := open_met (hval 1 29 v1 rfl rfl) h1 (fun x hx => hlt x (by simp [hx]))
  refine (own_walk j0 i0 g0 p0 x1 m1 ho1 W hl1).mono fun e W' ⟨he, hb⟩ => ?_
  subst he
  exact ⟨_, rfl, law_post laid (by kernel_rfl) Try.underlying4 (by rw [Try.params6]; decide +kernel) rfl hW' ⟨rfl, rfl, rfl⟩ hb⟩

set_option maxRecDepth 100000 in
theorem own_lifted (os : Os) (started : os.Started) (H : Type) (enc : TypeId × Value → H) :
    ReturnsInHanded {} Try.checked os 6 .any (Rows.metaOwnSpec.pre6 enc Try.prog Try.f6 Rows.metaOwnRow.domain false) (Rows.metaOwnSpec.post enc Try.prog Try.f6 false true false false) := by
  refine returnsInHanded_of_change (C := Try.checked) own started (by kernel_rfl) Try.func6
    (ChangeSpec.witness6 (enc := enc) (C := Try.checked) false ⟨#[], #[.agg #[.int .i64 0, .int .i64 0, .int .i64 0, .int .i64 0], .agg #[.slice none 0 0, .slice none 0 0, .slice none 0 0, .slice none 0 0]], []⟩ 8 (by kernel_rfl) (by kernel_rfl) (by kernel_rfl) (by kernel_rfl)) ?_
  intro W base args ds gs before hval hW _ _
  exact own_contract H enc W base args ds gs before hval hW

/-- MetaOwn is true for every input. -/
theorem own_holds : Rows.MetaOwnSaid :=
  OpenClaim.holds_of_wide 6 Try.f6 rfl rfl rfl rfl rfl rfl rfl ⟨rfl, rfl, rfl, rfl, rfl⟩ rfl rfl rfl rfl rfl (by kernel_rfl) Try.func6 (by kernel_rfl)
    (of_decide_eq_true (by kernel_rfl)) (by unfold Func.isWrapper; first | (rw [if_pos (by decide +kernel)]; kernel_rfl) | (rw [if_neg (by decide +kernel)]; exact ⟨rfl, rfl⟩))
    (fun os started H enc _ => own_lifted os started H enc)
end Go.Proofs.Ytaflpigpeckhoaa
