/-
  Whether what is known has its form, what is known of a new disk, and the sectors of it, are the document's: for every parting and everything known (of lists of up to 100).
  No condition is set.
-/
import Derived.Test.YtaflpigpeckhoaaQMetaSh
namespace Go.Proofs.Ytaflpigpeckhoaa
open Go.RowKit Go.ChangeShapes Go.WideShapes Go.ChangeAt Go.Deep Go.Joins Meta

theorem Meta.newP_ok (G : Geo) : Okm (newP G).1 ∧ (newP G).1.rows.length ≤ 64 ∧ (newP G).1.own.length ≤ 64 ∧ (newP G).1.used.length ≤ 64 ∧ (newP G).1.ino.length ≤ 64 := by
  by_cases h : G.Ok
  · rw [newP_yes h]
    have h1 := h.g1
    have h2 := h.g2
    have h3 := h.i1
    have h4 := h.i2
    refine ⟨newM_okm G, ?_, ?_, ?_, ?_⟩ <;> simp [newM] <;> omega
  · rw [newP_no h]
    exact ⟨Okm.z, by decide, by decide, by decide, by decide⟩
theorem Meta.layM_len (G : Geo) (m : Meta.Met) : (layM G m).1.length ≤ 100 := by
  by_cases h : Meta.Right G m
  · rw [lay_yes h]
    have h1 := length_secs h
    have h2 := h.geo.i2
    show (secs m).length ≤ 100
    omega
  · rw [lay_no h]
    exact Nat.zero_le _
theorem Meta.small_yes {a b c d : Nat} (h : smallB a b c d = true) : a ≤ 100 ∧ b ≤ 100 ∧ c ≤ 200 ∧ d ≤ 100 := by
  simp only [smallB, Bool.and_eq_true, decide_eq_true_eq] at h
  omega
set_option maxRecDepth 100000 in
set_option maxHeartbeats 6400000 in
theorem lays_in (j i g p : Int) (m : Meta.Met) (ho : Okm m) (M0 M1 M2 M3 : Option Addr) (r0 e0 r1 e1 r2 e2 r3 e3 : Nat) (w : World) (h0 : m.rows.length = r0) (h1 : m.own.length = r1) (h2 : m.used.length = r2) (h3 : m.ino.length = r3) (hl : Lies w w.heap.size ⟨M0, e0, M1, e1, M2, e2, M3, e3⟩ m) :
    Calls Try.prog 3 #[.agg #[.int .i64 j, .int .i64 i, .int .i64 g, .int .i64 p], .agg #[.slice M0 r0 e0, .slice M1 r1 e1, .slice M2 r2 e2, .slice M3 r3 e3]] w fun e w' => e = .returned (.bool true) ∧ Below w.heap.size w w' := by
  obtain ⟨W, hW⟩ : ∃ W, W = (w.alloc (.cells #[.int .i64 j, .int .i64 i, .int .i64 g, .int .i64 p] 23)).alloc (.cells #[.slice M0 r0 e0, .slice M1 r1 e1, .slice M2 r2 e2, .slice M3 r3 e3] 29) := ⟨_, rfl⟩
  have hbW : Below w.heap.size w W := by rw [hW]; exact (Below.refl _ _).alloc (Nat.le_refl _) _ |>.alloc (by simp) _
  have hG : Bk W w.heap.size 23 [.int .i64 j, .int .i64 i, .int .i64 g, .int .i64 p] := by rw [hW]; exact (geo_box w j i g p).below (al_below _ _) (by simp)
  have hM : Bk W (w.heap.size + 1) 29 [.slice M0 r0 e0, .slice M1 r1 e1, .slice M2 r2 e2, .slice M3 r3 e3] := by
    rw [hW]
    have := Bk.new (w.alloc (.cells #[.int .i64 j, .int .i64 i, .int .i64 g, .int .i64 p] 23)) 29 [.slice M0 r0 e0, .slice M1 r1 e1, .slice M2 r2 e2, .slice M3 r3 e3]
    simpa using this
  have HG := Lib.hid hG
  have HM := Lib.hid hM
  have HB := Lib.hid hbW
  have HW := Lib.hid hW
  have HL := Lib.hid (hl.later hbW)
  obtain ⟨g0, g1, g2, g3⟩ := four_cells hG
  obtain ⟨q0, q1, q2, q3⟩ := four_cells hM
  have hltg := hG.lt
  have hltm := hM.lt
  clear hbW hG hM hW hl
  by_cases hsm : smallB r0 r1 r2 r3 = true
  rotate_left
  · have hsf : smallB r0 r1 r2 r3 = false := by simpa using hsm
    have HS : Hid (∀ u : World, Calls Try.prog 10 #[.agg #[.slice M0 r0 e0, .slice M1 r1 e1, .slice M2 r2 e2, .slice M3 r3 e3]] u fun e w' => e = .returned (.bool false) ∧ Below u.heap.size u w') := Lib.hid (fun u => by
      have := small_in M0 M1 M2 M3 r0 e0 r1 e1 r2 e2 r3 e3 u
      rwa [hsf] at this)
    clear hsm hsf ho h0 h1 h2 h3
    go_enter Try.func3, Try.ntmps3
    go_upto_region 1 with fail
    rw [← HW.out]
    go_wp2_with (first
      | (go_at_call 9; (with_reducible refine (shown_any _).mono ?_); rintro e w1 ⟨he, hb⟩; obtain rfl := he; replace HB := Lib.hid (HB.out.trans (hb.mono HB.out.size)); replace HG := Lib.hid (HG.out.below hb HG.out.lt); replace HM := Lib.hid (HM.out.below hb HM.out.lt); replace HL := Lib.hid (HL.out.later hb); clear g0 g1 g2 g3 q0 q1 q2 q3 hltg hltm hb; obtain ⟨g0, g1, g2, g3⟩ := four_cells HG.out; have hltg := HG.out.lt; obtain ⟨q0, q1, q2, q3⟩ := four_cells HM.out; have hltm := HM.out.lt)
      | (go_at_call 10; (with_reducible refine (HS.out _).mono ?_); rintro e w2 ⟨he, hb⟩; obtain rfl := he; replace HB := Lib.hid (HB.out.trans (hb.mono HB.out.size)); replace HG := Lib.hid (HG.out.below hb HG.out.lt); replace HM := Lib.hid (HM.out.below hb HM.out.lt); replace HL := Lib.hid (HL.out.later hb); clear g0 g1 g2 g3 q0 q1 q2 q3 hltg hltm hb; obtain ⟨g0, g1, g2, g3⟩ := four_cells HG.out; have hltg := HG.out.lt; obtain ⟨q0, q1, q2, q3⟩ := four_cells HM.out; have hltm := HM.out.lt))
    go_ret
    exact ⟨rfl, HB.out⟩
  obtain ⟨s0, s1, s2, s3⟩ := small_yes hsm
  have HS : Hid (∀ u : World, Calls Try.prog 10 #[.agg #[.slice M0 r0 e0, .slice M1 r1 e1, .slice M2 r2 e2, .slice M3 r3 e3]] u fun e w' => e = .returned (.bool true) ∧ Below u.heap.size u w') := Lib.hid (fun u => by
    have := small_in M0 M1 M2 M3 r0 e0 r1 e1 r2 e2 r3 e3 u
    rwa [hsm] at this)
  obtain ⟨a1, a2, a3, a4, a5⟩ := newP_ok ⟨j, i, g, p⟩
  obtain ⟨N, hN⟩ : ∃ N, (newP ⟨j, i, g, p⟩).1 = N := ⟨_, rfl⟩
  obtain ⟨en, hen⟩ : ∃ en, (newP ⟨j, i, g, p⟩).2 = en := ⟨_, rfl⟩
  have hnr : newP ⟨j, i, g, p⟩ = (N, en) := by rw [← hN, ← hen]
  rw [hN] at a1 a2 a3 a4 a5
  obtain ⟨n0, hn0⟩ : ∃ q, N.rows.length = q := ⟨_, rfl⟩
  obtain ⟨n1, hn1⟩ : ∃ q, N.own.length = q := ⟨_, rfl⟩
  obtain ⟨n2, hn2⟩ : ∃ q, N.used.length = q := ⟨_, rfl⟩
  obtain ⟨n3, hn3⟩ : ∃ q, N.ino.length = q := ⟨_, rfl⟩
  have HN0 := Lib.hid hn0
  have HN1 := Lib.hid hn1
  have HN2 := Lib.hid hn2
  have HN3 := Lib.hid hn3
  have HNEW : Hid (∀ u : World, Calls Try.prog 11 #[.agg #[.int .i64 j, .int .i64 i, .int .i64 g, .int .i64 p]] u fun e w' => HandsM u (N, en) e w') := Lib.hid (fun u => by
    have := new_any ⟨j, i, g, p⟩ u
    rwa [hnr] at this)
  have HRNEW : Hid (∀ u : World, Calls Try.prog 12 #[.agg #[.int .i64 j, .int .i64 i, .int .i64 g, .int .i64 p]] u fun e w' => HandsM u (N, en) e w') := Lib.hid (fun u => by
    have := rnew_any ⟨j, i, g, p⟩ u
    rwa [hnr] at this)
  have hll := layM_len ⟨j, i, g, p⟩ m
  obtain ⟨ls, hls⟩ : ∃ ls, (layM ⟨j, i, g, p⟩ m).1 = ls := ⟨_, rfl⟩
  obtain ⟨el, hel⟩ : ∃ el, (layM ⟨j, i, g, p⟩ m).2 = el := ⟨_, rfl⟩
  have hlr : layM ⟨j, i, g, p⟩ m = (ls, el) := by rw [← hls, ← hel]
  rw [hls] at hll
  obtain ⟨q, hq⟩ : ∃ q, ls.length = q := ⟨_, rfl⟩
  have HQ := Lib.hid hq
  have HLAY : Hid (∀ u : World, Lies u u.heap.size ⟨M0, e0, M1, e1, M2, e2, M3, e3⟩ m → Calls Try.prog 13 #[.agg #[.int .i64 j, .int .i64 i, .int .i64 g, .int .i64 p], .agg #[.slice M0 r0 e0, .slice M1 r1 e1, .slice M2 r2 e2, .slice M3 r3 e3]] u fun e w' => HandsL u (ls, el) e w') := Lib.hid (fun u hl => by
    have := lay_in j i g p m ho M0 M1 M2 M3 r0 e0 r1 e1 r2 e2 r3 e3 u h0 h1 h2 h3 hl (by omega)
    rwa [hlr] at this)
  have HRLAY : Hid (∀ u : World, Lies u u.heap.size ⟨M0, e0, M1, e1, M2, e2, M3, e3⟩ m → Calls Try.prog 14 #[.agg #[.int .i64 j, .int .i64 i, .int .i64 g, .int .i64 p], .agg #[.slice M0 r0 e0, .slice M1 r1 e1, .slice M2 r2 e2, .slice M3 r3 e3]] u fun e w' => HandsL u (ls, el) e w') := Lib.hid (fun u hl => by
    have := rlay_in j i g p m ho M0 M1 M2 M3 r0 e0 r1 e1 r2 e2 r3 e3 u h0 h1 h2 h3 hl (by omega)
    rwa [hlr] at this)
  obtain ⟨rb, hrb⟩ : ∃ rb, rightB ⟨j, i, g, p⟩ m = rb := ⟨_, rfl⟩
  have HRIGHT : Hid (∀ u : World, Lies u u.heap.size ⟨M0, e0, M1, e1, M2, e2, M3, e3⟩ m → Calls Try.prog 16 #[.agg #[.int .i64 j, .int .i64 i, .int .i64 g, .int .i64 p], .agg #[.slice M0 r0 e0, .slice M1 r1 e1, .slice M2 r2 e2, .slice M3 r3 e3]] u fun e w' => e = .returned (.bool rb) ∧ Below u.heap.size u w') := Lib.hid (fun u hl => by
    have := right_in j i g p m ho M0 M1 M2 M3 r0 e0 r1 e1 r2 e2 r3 e3 u h0 h1 h2 h3 hl (by omega)
    rwa [hrb] at this)
  have HRRIGHT : Hid (∀ u : World, Lies u u.heap.size ⟨M0, e0, M1, e1, M2, e2, M3, e3⟩ m → Calls Try.prog 17 #[.agg #[.int .i64 j, .int .i64 i, .int .i64 g, .int .i64 p], .agg #[.slice M0 r0 e0, .slice M1 r1 e1, .slice M2 r2 e2, .slice M3 r3 e3]] u fun e w' => e = .returned (.bool rb) ∧ Below u.heap.size u w') := Lib.hid (fun u hl => by
    have := rright_in j i g p m ho M0 M1 M2 M3 r0 e0 r1 e1 r2 e2 r3 e3 u h0 h1 h2 h3 hl (by omega)
    rwa [hrb] at this)
  have HSAME : Hid (∀ (u : World) (A0 A1 A2 A3 : Option Addr) (k0 k1 k2 k3 : Nat) (B0 B1 B2 B3 : Option Addr) (d0 d1 d2 d3 : Nat), Lies u u.heap.size ⟨A0, k0, A1, k1, A2, k2, A3, k3⟩ N → Lies u u.heap.size ⟨B0, d0, B1, d1, B2, d2, B3, d3⟩ N → Calls Try.prog 15 #[.agg #[.slice A0 n0 k0, .slice A1 n1 k1, .slice A2 n2 k2, .slice A3 n3 k3], .agg #[.slice B0 n0 d0, .slice B1 n1 d1, .slice B2 n2 d2, .slice B3 n3 d3]] u fun e w' => e = .returned (.bool true) ∧ Below u.heap.size u w') := Lib.hid (fun u A0 A1 A2 A3 k0 k1 k2 k3 B0 B1 B2 B3 d0 d1 d2 d3 hl hk =>
    rsame_in N a1 A0 A1 A2 A3 B0 B1 B2 B3 n0 k0 n1 k1 n2 k2 n3 k3 d0 d1 d2 d3 u hn0 hn1 hn2 hn3 hl hk (by omega))
  have HSEC : Hid (∀ (u : World) (A1 A2 : Option Addr) (c d : Nat) (L1 L2 : List Sc), SecsAt u u.heap.size A1 L1 ls → SecsAt u u.heap.size A2 L2 ls → Calls Try.prog 18 #[.slice A1 q c, .slice A2 q d] u fun e w' => e = .returned (.bool true) ∧ Below u.heap.size u w') := Lib.hid (fun u A1 A2 c d L1 L2 h1 h2 => by
    have := rsec_any ls ls A1 A2 q q c d L1 L2 u hq hq h1 h2 (by omega)
    rwa [show (ls == ls) = true by simp] at this)
  have hrr : (rb == rb) = true := by simp
  clear hsm ho h0 h1 h2 h3 a1 a2 a3 a4 a5 hN hen hnr hn0 hn1 hn2 hn3 hls hel hlr hq hrb hll s0 s1 s2 s3
  go_enter Try.func3, Try.ntmps3
  go_upto_region 1 with fail
  rw [← HW.out]
  go_upto_region 8 with (first
    | (go_at_call 9; (with_reducible refine (shown_any _).mono ?_); rintro e w1 ⟨he, hb⟩; obtain rfl := he; replace HB := Lib.hid (HB.out.trans (hb.mono HB.out.size)); replace HG := Lib.hid (HG.out.below hb HG.out.lt); replace HM := Lib.hid (HM.out.below hb HM.out.lt); replace HL := Lib.hid (HL.out.later hb); clear g0 g1 g2 g3 q0 q1 q2 q3 hltg hltm hb; obtain ⟨g0, g1, g2, g3⟩ := four_cells HG.out; have hltg := HG.out.lt; obtain ⟨q0, q1, q2, q3⟩ := four_cells HM.out; have hltm := HM.out.lt)
    | (go_at_call 10; (with_reducible refine (HS.out _).mono ?_); rintro e w2 ⟨he, hb⟩; obtain rfl := he; replace HB := Lib.hid (HB.out.trans (hb.mono HB.out.size)); replace HG := Lib.hid (HG.out.below hb HG.out.lt); replace HM := Lib.hid (HM.out.below hb HM.out.lt); replace HL := Lib.hid (HL.out.later hb); clear g0 g1 g2 g3 q0 q1 q2 q3 hltg hltm hb; obtain ⟨g0, g1, g2, g3⟩ := four_cells HG.out; have hltg := HG.out.lt; obtain ⟨q0, q1, q2, q3⟩ := four_cells HM.out; have hltm := HM.out.lt)
    | (go_at_call 11; (with_reducible refine (HNEW.out _).mono ?_); rintro e w3 hh; obtain ⟨A0, k0, A1, k1, A2, k2, A3, k3, he, ho, hb⟩ := hh.got HN0.out HN1.out HN2.out HN3.out; obtain rfl := he; replace HB := Lib.hid (HB.out.trans (hb.mono HB.out.size)); replace HG := Lib.hid (HG.out.below hb HG.out.lt); replace HM := Lib.hid (HM.out.below hb HM.out.lt); replace HL := Lib.hid (HL.out.later hb); have HO1 := Lib.hid ho; clear ho; clear g0 g1 g2 g3 q0 q1 q2 q3 hltg hltm hb; obtain ⟨g0, g1, g2, g3⟩ := four_cells HG.out; have hltg := HG.out.lt; obtain ⟨q0, q1, q2, q3⟩ := four_cells HM.out; have hltm := HM.out.lt)
    | (go_at_call 12; have hal := al_below w3 (.cells #[.slice A0 n0 k0, .slice A1 n1 k1, .slice A2 n2 k2, .slice A3 n3 k3] 29); replace HB := Lib.hid (HB.out.trans (hal.mono HB.out.size)); replace HG := Lib.hid (HG.out.below hal HG.out.lt); replace HM := Lib.hid (HM.out.below hal HM.out.lt); replace HL := Lib.hid (HL.out.later hal); replace HO1 := Lib.hid (HO1.out.below hal); have HV1 := Lib.hid (Bk.new w3 29 [.slice A0 n0 k0, .slice A1 n1 k1, .slice A2 n2 k2, .slice A3 n3 k3]); clear hal; (with_reducible refine (HRNEW.out _).mono ?_); rintro e w4 hh; obtain ⟨B0, d0, B1, d1, B2, d2, B3, d3, he, ho, hb⟩ := hh.got HN0.out HN1.out HN2.out HN3.out; obtain rfl := he; replace HB := Lib.hid (HB.out.trans (hb.mono HB.out.size)); replace HG := Lib.hid (HG.out.below hb HG.out.lt); replace HM := Lib.hid (HM.out.below hb HM.out.lt); replace HL := Lib.hid (HL.out.later hb); replace HO1 := Lib.hid (HO1.out.below hb); replace HV1 := Lib.hid (HV1.out.below hb HV1.out.lt); have HO2 := Lib.hid ho; clear ho; clear g0 g1 g2 g3 q0 q1 q2 q3 hltg hltm hb; obtain ⟨g0, g1, g2, g3⟩ := four_cells HG.out; have hltg := HG.out.lt; obtain ⟨q0, q1, q2, q3⟩ := four_cells HM.out; have hltm := HM.out.lt)
    | (go_at_call 13; have hal := al_below w4 (.cells #[.slice B0 n0 d0, .slice B1 n1 d1, .slice B2 n2 d2, .slice B3 n3 d3] 29); replace HB := Lib.hid (HB.out.trans (hal.mono HB.out.size)); replace HG := Lib.hid (HG.out.below hal HG.out.lt); replace HM := Lib.hid (HM.out.below hal HM.out.lt); replace HL := Lib.hid (HL.out.later hal); replace HO1 := Lib.hid (HO1.out.below hal); replace HV1 := Lib.hid (HV1.out.below hal HV1.out.lt); replace HO2 := Lib.hid (HO2.out.below hal); have HV2 := Lib.hid (Bk.new w4 29 [.slice B0 n0 d0, .slice B1 n1 d1, .slice B2 n2 d2, .slice B3 n3 d3]); clear hal; (with_reducible refine (HLAY.out _ HL.out).mono ?_); rintro e w5 hh; obtain ⟨C1, c1, L1, he, -, -, -, hsa, hb⟩ := hh.got; rw [HQ.out] at he; obtain rfl := he; replace HB := Lib.hid (HB.out.trans (hb.mono HB.out.size)); replace HG := Lib.hid (HG.out.below hb HG.out.lt); replace HM := Lib.hid (HM.out.below hb HM.out.lt); replace HL := Lib.hid (HL.out.later hb); replace HO1 := Lib.hid (HO1.out.below hb); replace HV1 := Lib.hid (HV1.out.below hb HV1.out.lt); replace HO2 := Lib.hid (HO2.out.below hb); replace HV2 := Lib.hid (HV2.out.below hb HV2.out.lt); have HT1 := Lib.hid hsa; clear hsa; clear g0 g1 g2 g3 q0 q1 q2 q3 hltg hltm hb; obtain ⟨g0, g1, g2, g3⟩ := four_cells HG.out; have hltg := HG.out.lt; obtain ⟨q0, q1, q2, q3⟩ := four_cells HM.out; have hltm := HM.out.lt)
    | (go_at_call 14; (with_reducible refine (HRLAY.out _ HL.out).mono ?_); rintro e w6 hh; obtain ⟨C2, c2, L2, he, -, -, -, hsa, hb⟩ := hh.got; rw [HQ.out] at he; obtain rfl := he; replace HB := Lib.hid (HB.out.trans (hb.mono HB.out.size)); replace HG := Lib.hid (HG.out.below hb HG.out.lt); replace HM := Lib.hid (HM.out.below hb HM.out.lt); replace HL := Lib.hid (HL.out.later hb); replace HO1 := Lib.hid (HO1.out.below hb); replace HV1 := Lib.hid (HV1.out.below hb HV1.out.lt); replace HO2 := Lib.hid (HO2.out.below hb); replace HV2 := Lib.hid (HV2.out.below hb HV2.out.lt); replace HT1 := Lib.hid (HT1.out.later hb); have HT2 := Lib.hid hsa; clear hsa; clear g0 g1 g2 g3 q0 q1 q2 q3 hltg hltm hb; obtain ⟨g0, g1, g2, g3⟩ := four_cells HG.out; have hltg := HG.out.lt; obtain ⟨q0, q1, q2, q3⟩ := four_cells HM.out; have hltm := HM.out.lt))
  have hS0 : Below w6.heap.size w6 w6.drew := (Below.refl _ _).drew
  refine wp_region_held_drew (S := fun u => Below w6.heap.size w6 u) (by kernel_rfl) hS0 (fun hHeld => ?_)
  clear g0 g1 g2 g3 hltg q0 q1 q2 q3 hltm hS0
  generalize hu0 : w6.drew = x0 at *
  clear hu0
  refine wpAnyH_take (i := 0) (oi := _) (v := ?_) (by simp only [List.getElem?_toArray, List.getElem?_cons_zero]; rfl) (by kernel_rfl) (by kernel_rfl) (by kernel_rfl) (by exact fun _ _ _ h => h) (Or.inl ⟨by rfl, ?hya0⟩) (by exact hHeld) ?rea0
  case hya0 => (intro u hu; obtain ⟨g0, g1, g2, g3⟩ := four_cells (HG.out.below hu HG.out.lt); obtain ⟨q0, q1, q2, q3⟩ := four_cells (HM.out.below hu HM.out.lt); obtain ⟨x0, x1, x2, x3⟩ := four_cells (HV1.out.below hu HV1.out.lt); obtain ⟨y0, y1, y2, y3⟩ := four_cells (HV2.out.below hu HV2.out.lt); clear hu; go_simp <;> with_reducible rfl)
  try simp only [Act.put, List.setIfInBounds_toArray, List.set_cons_zero, List.set_cons_succ]
  refine wpAnyH_take (i := 1) (oi := _) (v := ?_) (by simp only [List.getElem?_toArray, List.getElem?_cons_succ, List.getElem?_cons_zero]; rfl) (by kernel_rfl) (by kernel_rfl) (by kernel_rfl) (by exact fun _ _ _ h => h) (Or.inl ⟨by rfl, ?hya1⟩) (by exact hHeld) ?rea1
  case hya1 => (intro u hu; obtain ⟨g0, g1, g2, g3⟩ := four_cells (HG.out.below hu HG.out.lt); obtain ⟨q0, q1, q2, q3⟩ := four_cells (HM.out.below hu HM.out.lt); obtain ⟨x0, x1, x2, x3⟩ := four_cells (HV1.out.below hu HV1.out.lt); obtain ⟨y0, y1, y2, y3⟩ := four_cells (HV2.out.below hu HV2.out.lt); clear hu; go_simp <;> with_reducible rfl)
  try simp only [Act.put, List.setIfInBounds_toArray, List.set_cons_zero, List.set_cons_succ]
  refine wpAnyH_take (i := 2) (oi := _) (v := ?_) (by simp only [List.getElem?_toArray, List.getElem?_cons_succ, List.getElem?_cons_zero]; rfl) (by kernel_rfl) (by kernel_rfl) (by kernel_rfl) (by exact fun _ _ _ h => h) (Or.inl ⟨by rfl, ?hya2⟩) (by exact hHeld) ?rea2
  case hya2 => (intro u hu; obtain ⟨g0, g1, g2, g3⟩ := four_cells (HG.out.below hu HG.out.lt); obtain ⟨q0, q1, q2, q3⟩ := four_cells (HM.out.below hu HM.out.lt); obtain ⟨x0, x1, x2, x3⟩ := four_cells (HV1.out.below hu HV1.out.lt); obtain ⟨y0, y1, y2, y3⟩ := four_cells (HV2.out.below hu HV2.out.lt); clear hu; go_simp <;> with_reducible rfl)
  try simp only [Act.put, List.setIfInBounds_toArray, List.set_cons_zero, List.set_cons_succ]
  refine wpAnyH_take (i := 3) (oi := _) (v := ?_) (by simp only [List.getElem?_toArray, List.getElem?_cons_succ, List.getElem?_cons_zero]; rfl) (by kernel_rfl) (by kernel_rfl) (by kernel_rfl) (by exact fun _ _ _ h => h) (Or.inl ⟨by rfl, ?hya3⟩) (by exact hHeld) ?rea3
  case hya3 => (intro u hu; obtain ⟨g0, g1, g2, g3⟩ := four_cells (HG.out.below hu HG.out.lt); obtain ⟨q0, q1, q2, q3⟩ := four_cells (HM.out.below hu HM.out.lt); obtain ⟨x0, x1, x2, x3⟩ := four_cells (HV1.out.below hu HV1.out.lt); obtain ⟨y0, y1, y2, y3⟩ := four_cells (HV2.out.below hu HV2.out.lt); clear hu; go_simp <;> with_reducible rfl)
  try simp only [Act.put, List.setIfInBounds_toArray, List.set_cons_zero, List.set_cons_succ]
  refine wpAnyH_ready (rs := [4]) (by kernel_rfl) (by simp) ?_
  refine AllReadyH.cons (o := _) (by simp only [List.getElem?_toArray, List.getElem?_cons_succ, List.getElem?_cons_zero]; rfl) (fun K hK => ?_) AllReadyH.nil
  go_simp
  (with_reducible refine (HSAME.out _ _ _ _ _ _ _ _ _ _ _ _ _ _ _ _ _ ((HO1.out.below hHeld).lies) ((HO2.out.below hHeld).lies)).mono ?_)
  rintro e x1 ⟨he, hb⟩; obtain rfl := he
  have hS : Below w6.heap.size w6 x1 := hHeld.trans (hb.mono hHeld.size)
  clear hb
  go_simp
  refine hK.out _ _ hS (fun hHeld2 => ?_)
  clear hK K hHeld hS
  have hHeld := hHeld2
  clear hHeld2
  try simp only [Act.put, List.setIfInBounds_toArray, List.set_cons_zero, List.set_cons_succ]
  refine wpAnyH_take (i := 5) (oi := _) (v := ?_) (by simp only [List.getElem?_toArray, List.getElem?_cons_succ, List.getElem?_cons_zero]; rfl) (by kernel_rfl) (by kernel_rfl) (by kernel_rfl) (by exact fun _ _ _ h => h) (Or.inl ⟨by rfl, ?hya5⟩) (by exact hHeld) ?rea5
  case hya5 => (intro u hu; obtain ⟨g0, g1, g2, g3⟩ := four_cells (HG.out.below hu HG.out.lt); obtain ⟨q0, q1, q2, q3⟩ := four_cells (HM.out.below hu HM.out.lt); obtain ⟨x0, x1, x2, x3⟩ := four_cells (HV1.out.below hu HV1.out.lt); obtain ⟨y0, y1, y2, y3⟩ := four_cells (HV2.out.below hu HV2.out.lt); clear hu; go_simp <;> with_reducible rfl)
  try simp only [Act.put, List.setIfInBounds_toArray, List.set_cons_zero, List.set_cons_succ]
  refine wpAnyH_take (i := 6) (oi := _) (v := ?_) (by simp only [List.getElem?_toArray, List.getElem?_cons_succ, List.getElem?_cons_zero]; rfl) (by kernel_rfl) (by kernel_rfl) (by kernel_rfl) (by exact fun _ _ _ h => h) (Or.inl ⟨by rfl, ?hya6⟩) (by exact hHeld) ?rea6
  case hya6 => (intro u hu; obtain ⟨g0, g1, g2, g3⟩ := four_cells (HG.out.below hu HG.out.lt); obtain ⟨q0, q1, q2, q3⟩ := four_cells (HM.out.below hu HM.out.lt); obtain ⟨x0, x1, x2, x3⟩ := four_cells (HV1.out.below hu HV1.out.lt); obtain ⟨y0, y1, y2, y3⟩ := four_cells (HV2.out.below hu HV2.out.lt); clear hu; go_simp <;> with_reducible rfl)
  try simp only [Act.put, List.setIfInBounds_toArray, List.set_cons_zero, List.set_cons_succ]
  refine wpAnyH_take (i := 7) (oi := _) (v := ?_) (by simp only [List.getElem?_toArray, List.getElem?_cons_succ, List.getElem?_cons_zero]; rfl) (by kernel_rfl) (by kernel_rfl) (by kernel_rfl) (by exact fun _ _ _ h => h) (Or.inl ⟨by rfl, ?hya7⟩) (by exact hHeld) ?rea7
  case hya7 => (intro u hu; obtain ⟨g0, g1, g2, g3⟩ := four_cells (HG.out.below hu HG.out.lt); obtain ⟨q0, q1, q2, q3⟩ := four_cells (HM.out.below hu HM.out.lt); obtain ⟨x0, x1, x2, x3⟩ := four_cells (HV1.out.below hu HV1.out.lt); obtain ⟨y0, y1, y2, y3⟩ := four_cells (HV2.out.below hu HV2.out.lt); clear hu; go_simp <;> with_reducible rfl)
  try simp only [Act.put, List.setIfInBounds_toArray, List.set_cons_zero, List.set_cons_succ]
  refine wpAnyH_take (i := 8) (oi := _) (v := ?_) (by simp only [List.getElem?_toArray, List.getElem?_cons_succ, List.getElem?_cons_zero]; rfl) (by kernel_rfl) (by kernel_rfl) (by kernel_rfl) (by exact fun _ _ _ h => h) (Or.inl ⟨by rfl, ?hya8⟩) (by exact hHeld) ?rea8
  case hya8 => (intro u hu; obtain ⟨g0, g1, g2, g3⟩ := four_cells (HG.out.below hu HG.out.lt); obtain ⟨q0, q1, q2, q3⟩ := four_cells (HM.out.below hu HM.out.lt); obtain ⟨x0, x1, x2, x3⟩ := four_cells (HV1.out.below hu HV1.out.lt); obtain ⟨y0, y1, y2, y3⟩ := four_cells (HV2.out.below hu HV2.out.lt); clear hu; go_simp <;> with_reducible rfl)
  try simp only [Act.put, List.setIfInBounds_toArray, List.set_cons_zero, List.set_cons_succ]
  refine wpAnyH_take (i := 9) (oi := _) (v := ?_) (by simp only [List.getElem?_toArray, List.getElem?_cons_succ, List.getElem?_cons_zero]; rfl) (by kernel_rfl) (by kernel_rfl) (by kernel_rfl) (by exact fun _ _ _ h => h) (Or.inl ⟨by rfl, ?hya9⟩) (by exact hHeld) ?rea9
  case hya9 => (intro u hu; obtain ⟨g0, g1, g2, g3⟩ := four_cells (HG.out.below hu HG.out.lt); obtain ⟨q0, q1, q2, q3⟩ := four_cells (HM.out.below hu HM.out.lt); obtain ⟨x0, x1, x2, x3⟩ := four_cells (HV1.out.below hu HV1.out.lt); obtain ⟨y0, y1, y2, y3⟩ := four_cells (HV2.out.below hu HV2.out.lt); clear hu; go_simp <;> with_reducible rfl)
  try simp only [Act.put, List.setIfInBounds_toArray, List.set_cons_zero, List.set_cons_succ]
  refine wpAnyH_take (i := 10) (oi := _) (v := ?_) (by simp only [List.getElem?_toArray, List.getElem?_cons_succ, List.getElem?_cons_zero]; rfl) (by kernel_rfl) (by kernel_rfl) (by kernel_rfl) (by exact fun _ _ _ h => h) (Or.inl ⟨by rfl, ?hya10⟩) (by exact hHeld) ?rea10
  case hya10 => (intro u hu; obtain ⟨g0, g1, g2, g3⟩ := four_cells (HG.out.below hu HG.out.lt); obtain ⟨q0, q1, q2, q3⟩ := four_cells (HM.out.below hu HM.out.lt); obtain ⟨x0, x1, x2, x3⟩ := four_cells (HV1.out.below hu HV1.out.lt); obtain ⟨y0, y1, y2, y3⟩ := four_cells (HV2.out.below hu HV2.out.lt); clear hu; go_simp <;> with_reducible rfl)
  try simp only [Act.put, List.setIfInBounds_toArray, List.set_cons_zero, List.set_cons_succ]
  refine wpAnyH_take (i := 11) (oi := _) (v := ?_) (by simp only [List.getElem?_toArray, List.getElem?_cons_succ, List.getElem?_cons_zero]; rfl) (by kernel_rfl) (by kernel_rfl) (by kernel_rfl) (by exact fun _ _ _ h => h) (Or.inl ⟨by rfl, ?hya11⟩) (by exact hHeld) ?rea11
  case hya11 => (intro u hu; obtain ⟨g0, g1, g2, g3⟩ := four_cells (HG.out.below hu HG.out.lt); obtain ⟨q0, q1, q2, q3⟩ := four_cells (HM.out.below hu HM.out.lt); obtain ⟨x0, x1, x2, x3⟩ := four_cells (HV1.out.below hu HV1.out.lt); obtain ⟨y0, y1, y2, y3⟩ := four_cells (HV2.out.below hu HV2.out.lt); clear hu; go_simp <;> with_reducible rfl)
  try simp only [Act.put, List.setIfInBounds_toArray, List.set_cons_zero, List.set_cons_succ]
  refine wpAnyH_take (i := 12) (oi := _) (v := ?_) (by simp only [List.getElem?_toArray, List.getElem?_cons_succ, List.getElem?_cons_zero]; rfl) (by kernel_rfl) (by kernel_rfl) (by kernel_rfl) (by exact fun _ _ _ h => h) (Or.inl ⟨by rfl, ?hya12⟩) (by exact hHeld) ?rea12
  case hya12 => (intro u hu; obtain ⟨g0, g1, g2, g3⟩ := four_cells (HG.out.below hu HG.out.lt); obtain ⟨q0, q1, q2, q3⟩ := four_cells (HM.out.below hu HM.out.lt); obtain ⟨x0, x1, x2, x3⟩ := four_cells (HV1.out.below hu HV1.out.lt); obtain ⟨y0, y1, y2, y3⟩ := four_cells (HV2.out.below hu HV2.out.lt); clear hu; go_simp <;> with_reducible rfl)
  try simp only [Act.put, List.setIfInBounds_toArray, List.set_cons_zero, List.set_cons_succ]
  refine wpAnyH_take (i := 13) (oi := _) (v := ?_) (by simp only [List.getElem?_toArray, List.getElem?_cons_succ, List.getElem?_cons_zero]; rfl) (by kernel_rfl) (by kernel_rfl) (by kernel_rfl) (by exact fun _ _ _ h => h) (Or.inl ⟨by rfl, ?hya13⟩) (by exact hHeld) ?rea13
  case hya13 => (intro u hu; obtain ⟨g0, g1, g2, g3⟩ := four_cells (HG.out.below hu HG.out.lt); obtain ⟨q0, q1, q2, q3⟩ := four_cells (HM.out.below hu HM.out.lt); obtain ⟨x0, x1, x2, x3⟩ := four_cells (HV1.out.below hu HV1.out.lt); obtain ⟨y0, y1, y2, y3⟩ := four_cells (HV2.out.below hu HV2.out.lt); clear hu; go_simp <;> with_reducible rfl)
  try simp only [Act.put, List.setIfInBounds_toArray, List.set_cons_zero, List.set_cons_succ]
  refine wpAnyH_take (i := 15) (oi := _) (v := ?_) (by simp only [List.getElem?_toArray, List.getElem?_cons_succ, List.getElem?_cons_zero]; rfl) (by kernel_rfl) (by kernel_rfl) (by kernel_rfl) (by exact fun _ _ _ h => h) (Or.inl ⟨by rfl, ?hya15⟩) (by exact hHeld) ?rea15
  case hya15 => (intro u hu; obtain ⟨g0, g1, g2, g3⟩ := four_cells (HG.out.below hu HG.out.lt); obtain ⟨q0, q1, q2, q3⟩ := four_cells (HM.out.below hu HM.out.lt); obtain ⟨x0, x1, x2, x3⟩ := four_cells (HV1.out.below hu HV1.out.lt); obtain ⟨y0, y1, y2, y3⟩ := four_cells (HV2.out.below hu HV2.out.lt); clear hu; go_simp <;> with_reducible rfl)
  try simp only [Act.put, List.setIfInBounds_toArray, List.set_cons_zero, List.set_cons_succ]
  refine wpAnyH_take (i := 16) (oi := _) (v := ?_) (by simp only [List.getElem?_toArray, List.getElem?_cons_succ, List.getElem?_cons_zero]; rfl) (by kernel_rfl) (by kernel_rfl) (by kernel_rfl) (by exact fun _ _ _ h => h) (Or.inl ⟨by rfl, ?hya16⟩) (by exact hHeld) ?rea16
  case hya16 => (intro u hu; obtain ⟨g0, g1, g2, g3⟩ := four_cells (HG.out.below hu HG.out.lt); obtain ⟨q0, q1, q2, q3⟩ := four_cells (HM.out.below hu HM.out.lt); obtain ⟨x0, x1, x2, x3⟩ := four_cells (HV1.out.below hu HV1.out.lt); obtain ⟨y0, y1, y2, y3⟩ := four_cells (HV2.out.below hu HV2.out.lt); clear hu; go_simp <;> with_reducible rfl)
  try simp only [Act.put, List.setIfInBounds_toArray, List.set_cons_zero, List.set_cons_succ]
  refine wpAnyH_ready (rs := [14]) (by kernel_rfl) (by simp) ?_
  refine AllReadyH.cons (o := _) (by simp only [List.getElem?_toArray, List.getElem?_cons_succ, List.getElem?_cons_zero]; rfl) (fun K hK => ?_) AllReadyH.nil
  go_simp
  (with_reducible refine (HRIGHT.out _ (HL.out.later hHeld)).mono ?_)
  rintro e x2 ⟨he, hb⟩; obtain rfl := he
  have hS : Below w6.heap.size w6 x2 := hHeld.trans (hb.mono hHeld.size)
  clear hb
  go_simp
  refine hK.out _ _ hS (fun hHeld2 => ?_)
  clear hK K hHeld hS
  have hHeld := hHeld2
  clear hHeld2
  try simp only [Act.put, List.setIfInBounds_toArray, List.set_cons_zero, List.set_cons_succ]
  refine wpAnyH_ready (rs := [17]) (by kernel_rfl) (by simp) ?_
  refine AllReadyH.cons (o := _) (by simp only [List.getElem?_toArray, List.getElem?_cons_succ, List.getElem?_cons_zero]; rfl) (fun K hK => ?_) AllReadyH.nil
  go_simp
  (with_reducible refine (HRRIGHT.out _ (HL.out.later hHeld)).mono ?_)
  rintro e x3 ⟨he, hb⟩; obtain rfl := he
  have hS : Below w6.heap.size w6 x3 := hHeld.trans (hb.mono hHeld.size)
  clear hb
  go_simp
  refine hK.out _ _ hS (fun hHeld2 => ?_)
  clear hK K hHeld hS
  have hHeld := hHeld2
  clear hHeld2
  try simp only [Act.put, List.setIfInBounds_toArray, List.set_cons_zero, List.set_cons_succ]
  refine wpAnyH_take (i := 18) (oi := _) (v := ?_) (by simp only [List.getElem?_toArray, List.getElem?_cons_succ, List.getElem?_cons_zero]; rfl) (by kernel_rfl) (by kernel_rfl) (by kernel_rfl) (by exact fun _ _ _ h => h) (Or.inl ⟨by rfl, ?hya18⟩) (by exact hHeld) ?rea18
  case hya18 => (intro u hu; obtain ⟨g0, g1, g2, g3⟩ := four_cells (HG.out.below hu HG.out.lt); obtain ⟨q0, q1, q2, q3⟩ := four_cells (HM.out.below hu HM.out.lt); obtain ⟨x0, x1, x2, x3⟩ := four_cells (HV1.out.below hu HV1.out.lt); obtain ⟨y0, y1, y2, y3⟩ := four_cells (HV2.out.below hu HV2.out.lt); clear hu; go_simp <;> with_reducible rfl)
  try simp only [Act.put, List.setIfInBounds_toArray, List.set_cons_zero, List.set_cons_succ]
  refine wpAnyH_take (i := 19) (oi := _) (v := ?_) (by simp only [List.getElem?_toArray, List.getElem?_cons_succ, List.getElem?_cons_zero]; rfl) (by kernel_rfl) (by kernel_rfl) (by kernel_rfl) (by exact fun _ _ _ h => h) (Or.inl ⟨by rfl, ?hya19⟩) (by exact hHeld) ?rea19
  case hya19 => (intro u hu; obtain ⟨g0, g1, g2, g3⟩ := four_cells (HG.out.below hu HG.out.lt); obtain ⟨q0, q1, q2, q3⟩ := four_cells (HM.out.below hu HM.out.lt); obtain ⟨x0, x1, x2, x3⟩ := four_cells (HV1.out.below hu HV1.out.lt); obtain ⟨y0, y1, y2, y3⟩ := four_cells (HV2.out.below hu HV2.out.lt); clear hu; go_simp <;> with_reducible rfl)
  try simp only [Act.put, List.setIfInBounds_toArray, List.set_cons_zero, List.set_cons_succ]
  refine wpAnyH_take (i := 20) (oi := _) (v := ?_) (by simp only [List.getElem?_toArray, List.getElem?_cons_succ, List.getElem?_cons_zero]; rfl) (by kernel_rfl) (by kernel_rfl) (by kernel_rfl) (by exact fun _ _ _ h => h) (Or.inl ⟨by rfl, ?hya20⟩) (by exact hHeld) ?rea20
  case hya20 => (intro u hu; obtain ⟨g0, g1, g2, g3⟩ := four_cells (HG.out.below hu HG.out.lt); obtain ⟨q0, q1, q2, q3⟩ := four_cells (HM.out.below hu HM.out.lt); obtain ⟨x0, x1, x2, x3⟩ := four_cells (HV1.out.below hu HV1.out.lt); obtain ⟨y0, y1, y2, y3⟩ := four_cells (HV2.out.below hu HV2.out.lt); clear hu; go_simp <;> with_reducible rfl)
  try simp only [Act.put, List.setIfInBounds_toArray, List.set_cons_zero, List.set_cons_succ]
  refine wpAnyH_take (i := 21) (oi := _) (v := ?_) (by simp only [List.getElem?_toArray, List.getElem?_cons_succ, List.getElem?_cons_zero]; rfl) (by kernel_rfl) (by kernel_rfl) (by kernel_rfl) (by exact fun _ _ _ h => h) (Or.inl ⟨by rfl, ?hya21⟩) (by exact hHeld) ?rea21
  case hya21 => (intro u hu; obtain ⟨g0, g1, g2, g3⟩ := four_cells (HG.out.below hu HG.out.lt); obtain ⟨q0, q1, q2, q3⟩ := four_cells (HM.out.below hu HM.out.lt); obtain ⟨x0, x1, x2, x3⟩ := four_cells (HV1.out.below hu HV1.out.lt); obtain ⟨y0, y1, y2, y3⟩ := four_cells (HV2.out.below hu HV2.out.lt); clear hu; go_simp <;> with_reducible rfl)
  try simp only [Act.put, List.setIfInBounds_toArray, List.set_cons_zero, List.set_cons_succ]
  refine wpAnyH_take (i := 22) (oi := _) (v := ?_) (by simp only [List.getElem?_toArray, List.getElem?_cons_succ, List.getElem?_cons_zero]; rfl) (by kernel_rfl) (by kernel_rfl) (by kernel_rfl) (by exact fun _ _ _ h => h) (Or.inl ⟨by rfl, ?hya22⟩) (by exact hHeld) ?rea22
  case hya22 => (intro u hu; obtain ⟨g0, g1, g2, g3⟩ := four_cells (HG.out.below hu HG.out.lt); obtain ⟨q0, q1, q2, q3⟩ := four_cells (HM.out.below hu HM.out.lt); obtain ⟨x0, x1, x2, x3⟩ := four_cells (HV1.out.below hu HV1.out.lt); obtain ⟨y0, y1, y2, y3⟩ := four_cells (HV2.out.below hu HV2.out.lt); clear hu; go_simp <;> with_reducible rfl)
  try simp only [Act.put, List.setIfInBounds_toArray, List.set_cons_zero, List.set_cons_succ]
  refine wpAnyH_ready (rs := [23]) (by kernel_rfl) (by simp) ?_
  refine AllReadyH.cons (o := _) (by simp only [List.getElem?_toArray, List.getElem?_cons_succ, List.getElem?_cons_zero]; rfl) (fun K hK => ?_) AllReadyH.nil
  go_simp
  (with_reducible refine (HSEC.out _ _ _ _ _ _ _ (HT1.out.later hHeld) (HT2.out.later hHeld)).mono ?_)
  rintro e x4 ⟨he, hb⟩; obtain rfl := he
  have hS : Below w6.heap.size w6 x4 := hHeld.trans (hb.mono hHeld.size)
  clear hb
  go_simp
  refine hK.out _ _ hS (fun hHeld2 => ?_)
  clear hK K hHeld hS
  have hHeld := hHeld2
  clear hHeld2
  try simp only [Act.put, List.setIfInBounds_toArray, List.set_cons_zero, List.set_cons_succ]
  refine wpAnyH_take (i := 24) (oi := _) (v := ?_) (by simp only [List.getElem?_toArray, List.getElem?_cons_succ, List.getElem?_cons_zero]; rfl) (by kernel_rfl) (by kernel_rfl) (by kernel_rfl) (by exact fun _ _ _ h => h) (Or.inl ⟨by rfl, ?hya24⟩) (by exact hHeld) ?rea24
  case hya24 => (intro u hu; obtain ⟨g0, g1, g2, g3⟩ := four_cells (HG.out.below hu HG.out.lt); obtain ⟨q0, q1, q2, q3⟩ := four_cells (HM.out.below hu HM.out.lt); obtain ⟨x0, x1, x2, x3⟩ := four_cells (HV1.out.below hu HV1.out.lt); obtain ⟨y0, y1, y2, y3⟩ := four_cells (HV2.out.below hu HV2.out.lt); clear hu; go_simp <;> with_reducible rfl)
  try simp only [Act.put, List.setIfInBounds_toArray, List.set_cons_zero, List.set_cons_succ]
  refine wpAnyH_take (i := 25) (oi := _) (v := ?_) (by simp only [List.getElem?_toArray, List.getElem?_cons_succ, List.getElem?_cons_zero]; rfl) (by kernel_rfl) (by kernel_rfl) (by kernel_rfl) (by exact fun _ _ _ h => h) (Or.inl ⟨by rfl, ?hya25⟩) (by exact hHeld) ?rea25
  case hya25 => (intro u hu; obtain ⟨g0, g1, g2, g3⟩ := four_cells (HG.out.below hu HG.out.lt); obtain ⟨q0, q1, q2, q3⟩ := four_cells (HM.out.below hu HM.out.lt); obtain ⟨x0, x1, x2, x3⟩ := four_cells (HV1.out.below hu HV1.out.lt); obtain ⟨y0, y1, y2, y3⟩ := four_cells (HV2.out.below hu HV2.out.lt); clear hu; go_simp <;> with_reducible rfl)
  try simp only [Act.put, List.setIfInBounds_toArray, List.set_cons_zero, List.set_cons_succ]
  refine wpAnyH_take (i := 26) (oi := _) (v := ?_) (by simp only [List.getElem?_toArray, List.getElem?_cons_succ, List.getElem?_cons_zero]; rfl) (by kernel_rfl) (by kernel_rfl) (by kernel_rfl) (by exact fun _ _ _ h => h) (Or.inl ⟨by rfl, ?hya26⟩) (by exact hHeld) ?rea26
  case hya26 => (intro u hu; obtain ⟨g0, g1, g2, g3⟩ := four_cells (HG.out.below hu HG.out.lt); obtain ⟨q0, q1, q2, q3⟩ := four_cells (HM.out.below hu HM.out.lt); obtain ⟨x0, x1, x2, x3⟩ := four_cells (HV1.out.below hu HV1.out.lt); obtain ⟨y0, y1, y2, y3⟩ := four_cells (HV2.out.below hu HV2.out.lt); clear hu; go_simp <;> with_reducible rfl)
  try simp only [Act.put, List.setIfInBounds_toArray, List.set_cons_zero, List.set_cons_succ]
  refine wpAnyH_take (i := 27) (oi := _) (v := ?_) (by simp only [List.getElem?_toArray, List.getElem?_cons_succ, List.getElem?_cons_zero]; rfl) (by kernel_rfl) (by kernel_rfl) (by kernel_rfl) (by exact fun _ _ _ h => h) (Or.inl ⟨by rfl, ?hya27⟩) (by exact hHeld) ?rea27
  case hya27 => (intro u hu; obtain ⟨g0, g1, g2, g3⟩ := four_cells (HG.out.below hu HG.out.lt); obtain ⟨q0, q1, q2, q3⟩ := four_cells (HM.out.below hu HM.out.lt); obtain ⟨x0, x1, x2, x3⟩ := four_cells (HV1.out.below hu HV1.out.lt); obtain ⟨y0, y1, y2, y3⟩ := four_cells (HV2.out.below hu HV2.out.lt); clear hu; go_simp <;> with_reducible rfl)
  try simp only [Act.put, List.setIfInBounds_toArray, List.set_cons_zero, List.set_cons_succ]
  refine wpAnyH_take (i := 28) (oi := _) (v := ?_) (by simp only [List.getElem?_toArray, List.getElem?_cons_succ, List.getElem?_cons_zero]; rfl) (by kernel_rfl) (by kernel_rfl) (by kernel_rfl) (by exact fun _ _ _ h => h) (Or.inl ⟨by rfl, ?hya28⟩) (by exact hHeld) ?rea28
  case hya28 => (intro u hu; obtain ⟨g0, g1, g2, g3⟩ := four_cells (HG.out.below hu HG.out.lt); obtain ⟨q0, q1, q2, q3⟩ := four_cells (HM.out.below hu HM.out.lt); obtain ⟨x0, x1, x2, x3⟩ := four_cells (HV1.out.below hu HV1.out.lt); obtain ⟨y0, y1, y2, y3⟩ := four_cells (HV2.out.below hu HV2.out.lt); clear hu; go_simp <;> with_reducible rfl)
  try simp only [Act.put, List.setIfInBounds_toArray, List.set_cons_zero, List.set_cons_succ]
  refine wpAnyH_take (i := 29) (oi := _) (v := ?_) (by simp only [List.getElem?_toArray, List.getElem?_cons_succ, List.getElem?_cons_zero]; rfl) (by kernel_rfl) (by kernel_rfl) (by kernel_rfl) (by exact fun _ _ _ h => h) (Or.inl ⟨by rfl, ?hya29⟩) (by exact hHeld) ?rea29
  case hya29 => (intro u hu; obtain ⟨g0, g1, g2, g3⟩ := four_cells (HG.out.below hu HG.out.lt); obtain ⟨q0, q1, q2, q3⟩ := four_cells (HM.out.below hu HM.out.lt); obtain ⟨x0, x1, x2, x3⟩ := four_cells (HV1.out.below hu HV1.out.lt); obtain ⟨y0, y1, y2, y3⟩ := four_cells (HV2.out.below hu HV2.out.lt); clear hu; go_simp <;> with_reducible rfl)
  try simp only [Act.put, List.setIfInBounds_toArray, List.set_cons_zero, List.set_cons_succ]
  refine wpAnyH_take (i := 30) (oi := _) (v := ?_) (by simp only [List.getElem?_toArray, List.getElem?_cons_succ, List.getElem?_cons_zero]; rfl) (by kernel_rfl) (by kernel_rfl) (by kernel_rfl) (by exact fun _ _ _ h => h) (Or.inl ⟨by rfl, ?hya30⟩) (by exact hHeld) ?rea30
  case hya30 => (intro u hu; obtain ⟨g0, g1, g2, g3⟩ := four_cells (HG.out.below hu HG.out.lt); obtain ⟨q0, q1, q2, q3⟩ := four_cells (HM.out.below hu HM.out.lt); obtain ⟨x0, x1, x2, x3⟩ := four_cells (HV1.out.below hu HV1.out.lt); obtain ⟨y0, y1, y2, y3⟩ := four_cells (HV2.out.below hu HV2.out.lt); clear hu; go_simp <;> with_reducible rfl)
  try simp only [Act.put, List.setIfInBounds_toArray, List.set_cons_zero, List.set_cons_succ]
  refine wpAnyH_done (by kernel_rfl) ?_ _
  have HBE := Lib.hid (HB.out.trans (hHeld.mono HB.out.size))
  go_wp2
  go_ret
  exact ⟨rfl, HBE.out⟩
theorem lays_walk (j i g p : Int) (x : Mem) (m : Meta.Met) (ho : Okm m) (w : World) (hl : Lies w w.heap.size x m) : Calls Try.prog 3 #[.agg #[.int .i64 j, .int .i64 i, .int .i64 g, .int .i64 p], x.v m] w fun e w' => e = .returned (.bool true) ∧ Below w.heap.size w w' :=
  lays_in j i g p m ho x.rA x.oA x.uA x.iA _ x.rc _ x.oc _ x.uc _ x.ic w rfl rfl rfl rfl hl

set_option maxRecDepth 100000 in
theorem lays_contract (H : Type) (enc : TypeId × Value → H) (W : World) (base : Nat) (args : Array Value) (ds gs : List (DataW H)) (before : List MemPlace)
    (hval : ∀ (j : Nat) t v, Try.f3.params[j]? = some t → args[j]? = some v → Value.okWide Try.prog W .any base t v)
    (hW : DataW.Whole enc Try.prog Try.f3.params.toList Rows.metaLaysSpec.vars false W args.toList ds gs before) :
    Calls Try.prog 3 args W fun e W' => ∃ v, e = .returned v ∧ Rows.metaLaysSpec.post enc Try.prog Try.f3 false true false false W args v W' := by
  have hW' := hW
  have hlt : ∀ x ∈ before, x.block < W.heap.size := fun x hx => hW.lt x hx
  obtain ⟨p, q, hA0, hV, rfl, _, _⟩ := hW
  have hA : DataW.TrodAll enc Try.prog W 0 (fun _ => true) true Try.f3.params.toList args.toList ds p := hA0
  rw [Try.params3] at hA hval
  obtain ⟨v0, vs0, d0, ds0, p0, q0, hargs, rfl, rfl, h0, r0⟩ := trodAll_cons hA
  obtain ⟨v1, vs1, d1, ds1, p1, q1, rfl, rfl, rfl, h1, r1⟩ := trodAll_cons r0
  obtain ⟨rfl, rfl, rfl⟩ := trodAll_nil r1
  obtain rfl : args = #[v0, v1] := by cases args; simp_all
  obtain ⟨rfl, rfl⟩ := trodVars_none hV
  clear hA0
  obtain ⟨j0, i0, g0, p0, rfl, bj0, bi0, bg0, bp0⟩ := open_geo (hval 0 23 v0 rfl rfl) h0
  obtain ⟨x1, m1, rfl, ho1, hl1⟩ := open_met (hval 1 29 v1 rfl rfl) h1 (fun x hx => hlt x (by simp [hx]))
  refine (lays_walk j0 i0 g0 p0 x1 m1 ho1 W hl1).mono fun e W' ⟨he, hb⟩ => ?_
  subst he
  exact ⟨_, rfl, law_post laid (by kernel_rfl) Try.underlying4 (by rw [Try.params3]; decide +kernel) rfl hW' ⟨rfl, rfl, rfl⟩ hb⟩

set_option maxRecDepth 100000 in
theorem lays_lifted (os : Os) (started : os.Started) (H : Type) (enc : TypeId × Value → H) :
    ReturnsInHanded {} Try.checked os 3 .any (Rows.metaLaysSpec.pre6 enc Try.prog Try.f3 Rows.metaLaysRow.domain false) (Rows.metaLaysSpec.post enc Try.prog Try.f3 false true false false) := by
  refine returnsInHanded_of_change (C := Try.checked) own started (by kernel_rfl) Try.func3
    (ChangeSpec.witness6 (enc := enc) (C := Try.checked) false ⟨#[], #[.agg #[.int .i64 0, .int .i64 0, .int .i64 0, .int .i64 0], .agg #[.slice none 0 0, .slice none 0 0, .slice none 0 0, .slice none 0 0]], []⟩ 8 (by kernel_rfl) (by kernel_rfl) (by kernel_rfl) (by kernel_rfl)) ?_
  intro W base args ds gs before hval hW _ _
  exact lays_contract H enc W base args ds gs before hval hW

/-- MetaLays is true for every input. -/
theorem lays_holds : Rows.MetaLaysSaid :=
  OpenClaim.holds_of_wide 3 Try.f3 rfl rfl rfl rfl rfl rfl rfl ⟨rfl, rfl, rfl, rfl, rfl⟩ rfl rfl rfl rfl rfl (by kernel_rfl) Try.func3 (by kernel_rfl)
    (of_decide_eq_true (by kernel_rfl)) (by unfold Func.isWrapper; first | (rw [if_pos (by decide +kernel)]; kernel_rfl) | (rw [if_neg (by decide +kernel)]; exact ⟨rfl, rfl⟩))
    (fun os started H enc _ => lays_lifted os started H enc)
end Go.Proofs.Ytaflpigpeckhoaa
