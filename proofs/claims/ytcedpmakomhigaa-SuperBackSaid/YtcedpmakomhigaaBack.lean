/-
  SuperBack: whatever the geometry and the bytes, what was laid is taken, and what is taken is laid so.
-/
import Derived.Test.YtcedpmakomhigaaO
namespace Go.Proofs.Ytcedpmakomhigaa
open Go.ChangeShapes Go.WideShapes Go.ChangeAt Go.RowKit

theorem super_parts (J I G P : Nat) : ∃ R, superL J I G P = markL ++ (digs J 2 ++ (digs I 2 ++ (digs G 2 ++ (digs P 2 ++ R)))) := by
  refine ⟨List.replicate (60 - (headL J I G P).length) 0 ++ digs (sumOf (padl (headL J I G P) 60)) 4, ?_⟩
  simp [superL, sealed, padl, headL, layl]
/-- The numbers that stand in a superblock. -/
theorem super_nums {J I G P : Nat} (hJ : J < 65536) (hI : I < 65536) (hG : G < 65536) (hP : P < 65536) :
    numL (superL J I G P) 4 = J ∧ numL (superL J I G P) 6 = I ∧ numL (superL J I G P) 8 = G ∧ numL (superL J I G P) 10 = P := by
  obtain ⟨R, hR⟩ := super_parts J I G P
  have e : ∀ n : Nat, n < 65536 → le (digs n 2) = n := fun n hn => le_digs_of_lt n 2 (by simpa using hn)
  have hJ' := e J hJ
  have hI' := e I hI
  have hG' := e G hG
  have hP' := e P hP
  unfold numL
  rw [hR]
  simp only [markL, digs] at *
  exact ⟨hJ', hI', hG', hP'⟩
theorem not_zero : ¬ Valid 0 0 0 0 := fun h => by
  have := h.j1
  omega
/-- Take hands back what Lay made. -/
theorem take_super {J I G P : Nat} (h : Valid J I G P) (A : Option Addr) (c : Nat) (w : World) (hr : Rd w w.heap.size A (bytesV (superL J I G P))) (hc : 64 ≤ c) :
    Calls Try.prog 20 #[.slice A 64 c] w fun e w' => e = .returned (.tuple #[geoV J I G P, .int .i64 0]) ∧ Below w.heap.size w w' := by
  have p2 := h.p2
  obtain ⟨j1, j2, i1, i2, i3, g1, g2, p1, gp⟩ := id h
  obtain ⟨e0, e1, e2, e3⟩ := super_nums (J := J) (I := I) (G := G) (P := P) (by omega) (by omega) (by omega) (by omega)
  have := stake_yes (superL J I G P) A c w (length_super J I G P) hr hc (by rw [e0, e1, e2, e3]; exact h) (by rw [e0, e1, e2, e3])
  rw [e0, e1, e2, e3] at this
  exact this
theorem str_nil (W : World) : (convert 35 9 (.slice none 0 0)).run Try.prog W = .ok (.string ⟨#[]⟩) W := run_str W 35 9 5 Try.underlying35 Try.underlying5 Try.underlying9 0 none 0 0 [] rfl (.inl rfl)

set_option maxHeartbeats 1600000 in
set_option maxRecDepth 100000 in
theorem back_yes_yes {J I G P : Nat} (h : Valid J I G P) (l : List UInt8) (A : Option Addr) (n c : Nat) (w : World) (hn : l.length = n) (hr : Rd w w.heap.size A (bytesV l)) (hm : n ≤ 1000)
    {a b d e : Nat} (hv : Valid a b d e) (hl : l = superL a b d e) (HT : Hid (∀ w, Rd w w.heap.size A (bytesV l) → Calls Try.prog 20 #[.slice A n c] w fun x w' => x = .returned (.tuple #[geoV a b d e, .int .i64 0]) ∧ Below w.heap.size w w')) :
    Calls Try.prog 6 #[geoV J I G P, .slice A n c] w fun x w' => x = .returned (.bool true) ∧ Below w.heap.size w w' := by
  have Hn := Lib.hid hn
  have Hr := Lib.hid hr
  have gs := geo_same
  have gn := geo_nsame
  have gg := guard_at23
  have HL : Hid (∀ w, Calls Try.prog 18 #[geoV J I G P] w fun e w' => ∃ v, e = .returned (.tuple #[v, .int .i64 0]) ∧ Made w (superL J I G P) v w') := fun w => slay_yes h w
  have HB : Hid (∀ (A : Option Addr) (c : Nat) (w : World), Rd w w.heap.size A (bytesV (superL J I G P)) → 64 ≤ c → Calls Try.prog 20 #[.slice A 64 c] w fun e w' => e = .returned (.tuple #[geoV J I G P, .int .i64 0]) ∧ Below w.heap.size w w') := fun A c w hr hc => take_super h A c w hr hc
  have HS := Lib.hid (length_super J I G P)
  have HQ : Hid (∀ w, Calls Try.prog 14 #[geoV J I G P] w fun e w' => e = .returned (.bool true) ∧ Below w.heap.size w w') := fun w => (right_yes h w).mono fun e w' h => ⟨h.1, h.2.below⟩
  have H2 : Hid (∀ w, Calls Try.prog 18 #[geoV a b d e] w fun x w' => ∃ v, x = .returned (.tuple #[v, .int .i64 0]) ∧ Made w l v w') := fun w => by
    rw [hl]
    exact slay_yes hv w
  have Hl64 : Hid (l.length = 64) := by unfold Hid; rw [hl]; exact length_super _ _ _ _
  clear hl hv
  generalize superL J I G P = S at *
  clear h hn hr
  unfold geoV at *
  go_enter Try.func6, Try.ntmps6
  go_wp2_with fail
  refine (shown_any _).mono ?_
  rintro x w1 ⟨rfl, hb1⟩
  obtain ⟨c0, c1, c2, c3, hb1', hs1⟩ := kept_cells hb1
  have HB1 := Lib.hid hb1'
  clear hb1 hb1'
  go_wp2_with fail
  refine (HL.out _).mono ?_
  rintro x w2 ⟨v2, rfl, hown2, hb2⟩
  rw [HS.out] at hown2
  obtain ⟨_, A2, d2, rfl, hd2, _, hr2⟩ := own_rd hown2
  have HR2 := Lib.hid hr2
  clear hown2 hr2
  have q0 := (hb2.cell (p := ⟨w.heap.size, 0, none⟩) hs1).trans c0
  have q1 := (hb2.cell (p := ⟨w.heap.size, 1, none⟩) hs1).trans c1
  have q2 := (hb2.cell (p := ⟨w.heap.size, 2, none⟩) hs1).trans c2
  have q3 := (hb2.cell (p := ⟨w.heap.size, 3, none⟩) hs1).trans c3
  have hs2 : w.heap.size < w2.heap.size := Nat.lt_of_lt_of_le hs1 hb2.size
  have HB2 := Lib.hid (HB1.out.trans (hb2.mono HB1.out.size))
  clear hb2 c0 c1 c2 c3
  go_wp2_with fail
  refine (HB.out A2 d2 _ HR2.out hd2).mono ?_
  rintro x w3 ⟨rfl, hb3⟩
  have p0 := (hb3.cell (p := ⟨w.heap.size, 0, none⟩) hs2).trans q0
  have p1 := (hb3.cell (p := ⟨w.heap.size, 1, none⟩) hs2).trans q1
  have p2 := (hb3.cell (p := ⟨w.heap.size, 2, none⟩) hs2).trans q2
  have p3 := (hb3.cell (p := ⟨w.heap.size, 3, none⟩) hs2).trans q3
  have hs3 : w.heap.size < w3.heap.size := Nat.lt_of_lt_of_le hs2 hb3.size
  have HB3 := Lib.hid (HB2.out.trans (hb3.mono HB2.out.size))
  clear hb3 q0 q1 q2 q3
  go_wp2_with fail
  refine (HQ.out _).mono ?_
  rintro x w4 ⟨rfl, hb4⟩
  obtain ⟨t0, t1, t2, t3, hb4', hs4⟩ := kept_cells hb4
  have o0 := (hb4'.cell (p := ⟨w.heap.size, 0, none⟩) hs3).trans p0
  have o1 := (hb4'.cell (p := ⟨w.heap.size, 1, none⟩) hs3).trans p1
  have o2 := (hb4'.cell (p := ⟨w.heap.size, 2, none⟩) hs3).trans p2
  have o3 := (hb4'.cell (p := ⟨w.heap.size, 3, none⟩) hs3).trans p3
  have HB4 := Lib.hid (HB3.out.trans (hb4'.mono HB3.out.size))
  clear hb4 hb4' p0 p1 p2 p3
  go_wp2_with fail
  refine (HT.out _ ((Hr.out.below HB4.out).more HB4.out.size)).mono ?_
  rintro x w5 ⟨rfl, hb5⟩
  have HB5 := Lib.hid (HB4.out.trans (hb5.mono HB4.out.size))
  clear hb5 t0 t1 t2 t3 o0 o1 o2 o3
  go_wp2_with fail
  refine (H2.out _).mono ?_
  rintro x w6 ⟨v6, rfl, hown6, hb6⟩
  rw [Hl64.out] at hown6
  obtain ⟨_, A6, d6, rfl, hd6, _, hr6⟩ := own_rd hown6
  obtain ⟨u0, u1, u2, u3, hb6', hs6⟩ := kept_cells hb6
  have HB6 := Lib.hid (HB5.out.trans (hb6'.mono HB5.out.size))
  have s1 := str_of (c := d6) Hl64.out hr6
  have s2 := str_of (c := c) Hn.out (Hr.out.below HB6.out)
  clear hb6 hb6' hown6 hr6
  go_wp2_with fail
  go_ret
  exact ⟨rfl, HB6.out⟩

set_option maxHeartbeats 1600000 in
set_option maxRecDepth 100000 in
theorem back_yes_no {J I G P : Nat} (h : Valid J I G P) (l : List UInt8) (A : Option Addr) (n c : Nat) (w : World) (hn : l.length = n) (hr : Rd w w.heap.size A (bytesV l)) (hm : n ≤ 1000)
    (HT : Hid (∀ w, Rd w w.heap.size A (bytesV l) → Calls Try.prog 20 #[.slice A n c] w fun x w' => x = .returned (.tuple #[geoV 0 0 0 0, .int .i64 90]) ∧ Below w.heap.size w w')) :
    Calls Try.prog 6 #[geoV J I G P, .slice A n c] w fun x w' => x = .returned (.bool true) ∧ Below w.heap.size w w' := by
  have Hn := Lib.hid hn
  have Hr := Lib.hid hr
  have gs := geo_same
  have gn := geo_nsame
  have gg := guard_at23
  have HL : Hid (∀ w, Calls Try.prog 18 #[geoV J I G P] w fun e w' => ∃ v, e = .returned (.tuple #[v, .int .i64 0]) ∧ Made w (superL J I G P) v w') := fun w => slay_yes h w
  have HB : Hid (∀ (A : Option Addr) (c : Nat) (w : World), Rd w w.heap.size A (bytesV (superL J I G P)) → 64 ≤ c → Calls Try.prog 20 #[.slice A 64 c] w fun e w' => e = .returned (.tuple #[geoV J I G P, .int .i64 0]) ∧ Below w.heap.size w w') := fun A c w hr hc => take_super h A c w hr hc
  have HS := Lib.hid (length_super J I G P)
  have HQ : Hid (∀ w, Calls Try.prog 14 #[geoV J I G P] w fun e w' => e = .returned (.bool true) ∧ Below w.heap.size w w') := fun w => (right_yes h w).mono fun e w' h => ⟨h.1, h.2.below⟩
  have H2 : Hid (∀ w, Calls Try.prog 18 #[geoV 0 0 0 0] w fun x w' => x = .returned (.tuple #[.slice none 0 0, .int .i64 1]) ∧ Below w.heap.size w w') := fun w => slay_no not_zero w
  generalize superL J I G P = S at *
  clear h hn hr
  unfold geoV at *
  go_enter Try.func6, Try.ntmps6
  go_wp2_with fail
  refine (shown_any _).mono ?_
  rintro x w1 ⟨rfl, hb1⟩
  obtain ⟨c0, c1, c2, c3, hb1', hs1⟩ := kept_cells hb1
  have HB1 := Lib.hid hb1'
  clear hb1 hb1'
  go_wp2_with fail
  refine (HL.out _).mono ?_
  rintro x w2 ⟨v2, rfl, hown2, hb2⟩
  rw [HS.out] at hown2
  obtain ⟨_, A2, d2, rfl, hd2, _, hr2⟩ := own_rd hown2
  have HR2 := Lib.hid hr2
  clear hown2 hr2
  have q0 := (hb2.cell (p := ⟨w.heap.size, 0, none⟩) hs1).trans c0
  have q1 := (hb2.cell (p := ⟨w.heap.size, 1, none⟩) hs1).trans c1
  have q2 := (hb2.cell (p := ⟨w.heap.size, 2, none⟩) hs1).trans c2
  have q3 := (hb2.cell (p := ⟨w.heap.size, 3, none⟩) hs1).trans c3
  have hs2 : w.heap.size < w2.heap.size := Nat.lt_of_lt_of_le hs1 hb2.size
  have HB2 := Lib.hid (HB1.out.trans (hb2.mono HB1.out.size))
  clear hb2 c0 c1 c2 c3
  go_wp2_with fail
  refine (HB.out A2 d2 _ HR2.out hd2).mono ?_
  rintro x w3 ⟨rfl, hb3⟩
  have p0 := (hb3.cell (p := ⟨w.heap.size, 0, none⟩) hs2).trans q0
  have p1 := (hb3.cell (p := ⟨w.heap.size, 1, none⟩) hs2).trans q1
  have p2 := (hb3.cell (p := ⟨w.heap.size, 2, none⟩) hs2).trans q2
  have p3 := (hb3.cell (p := ⟨w.heap.size, 3, none⟩) hs2).trans q3
  have hs3 : w.heap.size < w3.heap.size := Nat.lt_of_lt_of_le hs2 hb3.size
  have HB3 := Lib.hid (HB2.out.trans (hb3.mono HB2.out.size))
  clear hb3 q0 q1 q2 q3
  go_wp2_with fail
  refine (HQ.out _).mono ?_
  rintro x w4 ⟨rfl, hb4⟩
  obtain ⟨t0, t1, t2, t3, hb4', hs4⟩ := kept_cells hb4
  have o0 := (hb4'.cell (p := ⟨w.heap.size, 0, none⟩) hs3).trans p0
  have o1 := (hb4'.cell (p := ⟨w.heap.size, 1, none⟩) hs3).trans p1
  have o2 := (hb4'.cell (p := ⟨w.heap.size, 2, none⟩) hs3).trans p2
  have o3 := (hb4'.cell (p := ⟨w.heap.size, 3, none⟩) hs3).trans p3
  have HB4 := Lib.hid (HB3.out.trans (hb4'.mono HB3.out.size))
  clear hb4 hb4' p0 p1 p2 p3
  go_wp2_with fail
  refine (HT.out _ ((Hr.out.below HB4.out).more HB4.out.size)).mono ?_
  rintro x w5 ⟨rfl, hb5⟩
  have HB5 := Lib.hid (HB4.out.trans (hb5.mono HB4.out.size))
  clear hb5 t0 t1 t2 t3 o0 o1 o2 o3
  go_wp2_with fail
  refine (H2.out _).mono ?_
  rintro x w6 ⟨rfl, hb6⟩
  obtain ⟨u0, u1, u2, u3, hb6', hs6⟩ := kept_cells hb6
  have HB6 := Lib.hid (HB5.out.trans (hb6'.mono HB5.out.size))
  clear hb6 hb6'
  go_wp2_with fail
  go_ret
  exact ⟨rfl, HB6.out⟩

set_option maxHeartbeats 1600000 in
set_option maxRecDepth 100000 in
theorem back_no_yes {j i g p : Int} (h : ¬ Valid j i g p) (l : List UInt8) (A : Option Addr) (n c : Nat) (w : World) (hn : l.length = n) (hr : Rd w w.heap.size A (bytesV l)) (hm : n ≤ 1000)
    {a b d e : Nat} (hv : Valid a b d e) (hl : l = superL a b d e) (HT : Hid (∀ w, Rd w w.heap.size A (bytesV l) → Calls Try.prog 20 #[.slice A n c] w fun x w' => x = .returned (.tuple #[geoV a b d e, .int .i64 0]) ∧ Below w.heap.size w w')) :
    Calls Try.prog 6 #[geoV j i g p, .slice A n c] w fun x w' => x = .returned (.bool true) ∧ Below w.heap.size w w' := by
  have Hn := Lib.hid hn
  have Hr := Lib.hid hr
  have gs := geo_same
  have gn := geo_nsame
  have gg := guard_at23
  have HL : Hid (∀ w, Calls Try.prog 18 #[geoV j i g p] w fun e w' => e = .returned (.tuple #[.slice none 0 0, .int .i64 1]) ∧ Below w.heap.size w w') := fun w => slay_no h w
  have HB : Hid (∀ w, Calls Try.prog 20 #[.slice none 0 0] w fun e w' => e = .returned (.tuple #[geoV 0 0 0 0, .int .i64 90]) ∧ Below w.heap.size w w') := fun w => stake_len none 0 0 w (by omega)
  have HQ : Hid (∀ w, Calls Try.prog 14 #[geoV j i g p] w fun e w' => e = .returned (.bool false) ∧ Below w.heap.size w w') := fun w => (right_no h w).mono fun e w' h => ⟨h.1, h.2.below⟩
  have H2 : Hid (∀ w, Calls Try.prog 18 #[geoV a b d e] w fun x w' => ∃ v, x = .returned (.tuple #[v, .int .i64 0]) ∧ Made w l v w') := fun w => by
    rw [hl]
    exact slay_yes hv w
  have Hl64 : Hid (l.length = 64) := by unfold Hid; rw [hl]; exact length_super _ _ _ _
  clear hl hv
  clear h hn hr
  unfold geoV at *
  go_enter Try.func6, Try.ntmps6
  go_wp2_with fail
  refine (shown_any _).mono ?_
  rintro x w1 ⟨rfl, hb1⟩
  obtain ⟨c0, c1, c2, c3, hb1', hs1⟩ := kept_cells hb1
  have HB1 := Lib.hid hb1'
  clear hb1 hb1'
  go_wp2_with fail
  refine (HL.out _).mono ?_
  rintro x w2 ⟨rfl, hb2⟩
  have q0 := (hb2.cell (p := ⟨w.heap.size, 0, none⟩) hs1).trans c0
  have q1 := (hb2.cell (p := ⟨w.heap.size, 1, none⟩) hs1).trans c1
  have q2 := (hb2.cell (p := ⟨w.heap.size, 2, none⟩) hs1).trans c2
  have q3 := (hb2.cell (p := ⟨w.heap.size, 3, none⟩) hs1).trans c3
  have hs2 : w.heap.size < w2.heap.size := Nat.lt_of_lt_of_le hs1 hb2.size
  have HB2 := Lib.hid (HB1.out.trans (hb2.mono HB1.out.size))
  clear hb2 c0 c1 c2 c3
  go_wp2_with fail
  refine (HB.out _).mono ?_
  rintro x w3 ⟨rfl, hb3⟩
  have p0 := (hb3.cell (p := ⟨w.heap.size, 0, none⟩) hs2).trans q0
  have p1 := (hb3.cell (p := ⟨w.heap.size, 1, none⟩) hs2).trans q1
  have p2 := (hb3.cell (p := ⟨w.heap.size, 2, none⟩) hs2).trans q2
  have p3 := (hb3.cell (p := ⟨w.heap.size, 3, none⟩) hs2).trans q3
  have hs3 : w.heap.size < w3.heap.size := Nat.lt_of_lt_of_le hs2 hb3.size
  have HB3 := Lib.hid (HB2.out.trans (hb3.mono HB2.out.size))
  clear hb3 q0 q1 q2 q3
  go_wp2_with fail
  refine (HQ.out _).mono ?_
  rintro x w4 ⟨rfl, hb4⟩
  obtain ⟨t0, t1, t2, t3, hb4', hs4⟩ := kept_cells hb4
  have o0 := (hb4'.cell (p := ⟨w.heap.size, 0, none⟩) hs3).trans p0
  have o1 := (hb4'.cell (p := ⟨w.heap.size, 1, none⟩) hs3).trans p1
  have o2 := (hb4'.cell (p := ⟨w.heap.size, 2, none⟩) hs3).trans p2
  have o3 := (hb4'.cell (p := ⟨w.heap.size, 3, none⟩) hs3).trans p3
  have HB4 := Lib.hid (HB3.out.trans (hb4'.mono HB3.out.size))
  clear hb4 hb4' p0 p1 p2 p3
  go_wp2_with fail
  refine (HT.out _ ((Hr.out.below HB4.out).more HB4.out.size)).mono ?_
  rintro x w5 ⟨rfl, hb5⟩
  have HB5 := Lib.hid (HB4.out.trans (hb5.mono HB4.out.size))
  clear hb5 t0 t1 t2 t3 o0 o1 o2 o3
  go_wp2_with fail
  refine (H2.out _).mono ?_
  rintro x w6 ⟨v6, rfl, hown6, hb6⟩
  rw [Hl64.out] at hown6
  obtain ⟨_, A6, d6, rfl, hd6, _, hr6⟩ := own_rd hown6
  obtain ⟨u0, u1, u2, u3, hb6', hs6⟩ := kept_cells hb6
  have HB6 := Lib.hid (HB5.out.trans (hb6'.mono HB5.out.size))
  have s1 := str_of (c := d6) Hl64.out hr6
  have s2 := str_of (c := c) Hn.out (Hr.out.below HB6.out)
  clear hb6 hb6' hown6 hr6
  go_wp2_with fail
  go_ret
  exact ⟨rfl, HB6.out⟩

set_option maxHeartbeats 1600000 in
set_option maxRecDepth 100000 in
theorem back_no_no {j i g p : Int} (h : ¬ Valid j i g p) (l : List UInt8) (A : Option Addr) (n c : Nat) (w : World) (hn : l.length = n) (hr : Rd w w.heap.size A (bytesV l)) (hm : n ≤ 1000)
    (HT : Hid (∀ w, Rd w w.heap.size A (bytesV l) → Calls Try.prog 20 #[.slice A n c] w fun x w' => x = .returned (.tuple #[geoV 0 0 0 0, .int .i64 90]) ∧ Below w.heap.size w w')) :
    Calls Try.prog 6 #[geoV j i g p, .slice A n c] w fun x w' => x = .returned (.bool true) ∧ Below w.heap.size w w' := by
  have Hn := Lib.hid hn
  have Hr := Lib.hid hr
  have gs := geo_same
  have gn := geo_nsame
  have gg := guard_at23
  have HL : Hid (∀ w, Calls Try.prog 18 #[geoV j i g p] w fun e w' => e = .returned (.tuple #[.slice none 0 0, .int .i64 1]) ∧ Below w.heap.size w w') := fun w => slay_no h w
  have HB : Hid (∀ w, Calls Try.prog 20 #[.slice none 0 0] w fun e w' => e = .returned (.tuple #[geoV 0 0 0 0, .int .i64 90]) ∧ Below w.heap.size w w') := fun w => stake_len none 0 0 w (by omega)
  have HQ : Hid (∀ w, Calls Try.prog 14 #[geoV j i g p] w fun e w' => e = .returned (.bool false) ∧ Below w.heap.size w w') := fun w => (right_no h w).mono fun e w' h => ⟨h.1, h.2.below⟩
  have H2 : Hid (∀ w, Calls Try.prog 18 #[geoV 0 0 0 0] w fun x w' => x = .returned (.tuple #[.slice none 0 0, .int .i64 1]) ∧ Below w.heap.size w w') := fun w => slay_no not_zero w
  clear h hn hr
  unfold geoV at *
  go_enter Try.func6, Try.ntmps6
  go_wp2_with fail
  refine (shown_any _).mono ?_
  rintro x w1 ⟨rfl, hb1⟩
  obtain ⟨c0, c1, c2, c3, hb1', hs1⟩ := kept_cells hb1
  have HB1 := Lib.hid hb1'
  clear hb1 hb1'
  go_wp2_with fail
  refine (HL.out _).mono ?_
  rintro x w2 ⟨rfl, hb2⟩
  have q0 := (hb2.cell (p := ⟨w.heap.size, 0, none⟩) hs1).trans c0
  have q1 := (hb2.cell (p := ⟨w.heap.size, 1, none⟩) hs1).trans c1
  have q2 := (hb2.cell (p := ⟨w.heap.size, 2, none⟩) hs1).trans c2
  have q3 := (hb2.cell (p := ⟨w.heap.size, 3, none⟩) hs1).trans c3
  have hs2 : w.heap.size < w2.heap.size := Nat.lt_of_lt_of_le hs1 hb2.size
  have HB2 := Lib.hid (HB1.out.trans (hb2.mono HB1.out.size))
  clear hb2 c0 c1 c2 c3
  go_wp2_with fail
  refine (HB.out _).mono ?_
  rintro x w3 ⟨rfl, hb3⟩
  have p0 := (hb3.cell (p := ⟨w.heap.size, 0, none⟩) hs2).trans q0
  have p1 := (hb3.cell (p := ⟨w.heap.size, 1, none⟩) hs2).trans q1
  have p2 := (hb3.cell (p := ⟨w.heap.size, 2, none⟩) hs2).trans q2
  have p3 := (hb3.cell (p := ⟨w.heap.size, 3, none⟩) hs2).trans q3
  have hs3 : w.heap.size < w3.heap.size := Nat.lt_of_lt_of_le hs2 hb3.size
  have HB3 := Lib.hid (HB2.out.trans (hb3.mono HB2.out.size))
  clear hb3 q0 q1 q2 q3
  go_wp2_with fail
  refine (HQ.out _).mono ?_
  rintro x w4 ⟨rfl, hb4⟩
  obtain ⟨t0, t1, t2, t3, hb4', hs4⟩ := kept_cells hb4
  have o0 := (hb4'.cell (p := ⟨w.heap.size, 0, none⟩) hs3).trans p0
  have o1 := (hb4'.cell (p := ⟨w.heap.size, 1, none⟩) hs3).trans p1
  have o2 := (hb4'.cell (p := ⟨w.heap.size, 2, none⟩) hs3).trans p2
  have o3 := (hb4'.cell (p := ⟨w.heap.size, 3, none⟩) hs3).trans p3
  have HB4 := Lib.hid (HB3.out.trans (hb4'.mono HB3.out.size))
  clear hb4 hb4' p0 p1 p2 p3
  go_wp2_with fail
  refine (HT.out _ ((Hr.out.below HB4.out).more HB4.out.size)).mono ?_
  rintro x w5 ⟨rfl, hb5⟩
  have HB5 := Lib.hid (HB4.out.trans (hb5.mono HB4.out.size))
  clear hb5 t0 t1 t2 t3 o0 o1 o2 o3
  go_wp2_with fail
  refine (H2.out _).mono ?_
  rintro x w6 ⟨rfl, hb6⟩
  obtain ⟨u0, u1, u2, u3, hb6', hs6⟩ := kept_cells hb6
  have HB6 := Lib.hid (HB5.out.trans (hb6'.mono HB5.out.size))
  clear hb6 hb6'
  go_wp2_with fail
  go_ret
  exact ⟨rfl, HB6.out⟩

set_option maxRecDepth 100000 in
theorem back_long (j i g p : Int) (A : Option Addr) (n c : Nat) (w : World) (hn : ¬ n ≤ 1000) : Calls Try.prog 6 #[geoV j i g p, .slice A n c] w fun e w' => e = .returned (.bool true) ∧ Below w.heap.size w w' := by
  have hn' : 1000 < n := by omega
  unfold geoV
  go_enter Try.func6, Try.ntmps6
  go_wp2_with fail
  refine (shown_any _).mono ?_
  rintro x w1 ⟨rfl, hb1⟩
  obtain ⟨c0, c1, c2, c3, hb1', hs1⟩ := kept_cells hb1
  have HB1 := Lib.hid hb1'
  clear hb1 hb1'
  go_wp2_with fail
  go_ret
  exact ⟨rfl, HB1.out⟩

theorem back_walk (j i g p : Int) (l : List UInt8) (A : Option Addr) (n c : Nat) (w : World) (hn : l.length = n) (hr : Rd w w.heap.size A (bytesV l)) (hc : n ≤ c) :
    Calls Try.prog 6 #[geoV j i g p, .slice A n c] w fun e w' => e = .returned (.bool true) ∧ Below w.heap.size w w' := by
  by_cases h1 : n ≤ 1000
  · by_cases h : Valid j i g p
    · obtain ⟨J, I, G, P, rfl, rfl, rfl, rfl⟩ := h.nats
      by_cases h64 : n = 64
      · subst h64
        by_cases hv : Valid (numL l 4) (numL l 6) (numL l 8) (numL l 10)
        · by_cases he : l = superL (numL l 4) (numL l 6) (numL l 8) (numL l 10)
          · exact back_yes_yes h l A 64 c w hn hr h1 hv he (Lib.hid fun w hr => stake_yes l A c w hn hr hc hv he)
          · exact back_yes_no h l A 64 c w hn hr h1 (Lib.hid fun w hr => stake_not l A c w hn hr hc hv he)
        · exact back_yes_no h l A 64 c w hn hr h1 (Lib.hid fun w hr => stake_bad l A c w hn hr hc hv)
      · exact back_yes_no h l A n c w hn hr h1 (Lib.hid fun w _ => stake_len A n c w h64)
    · by_cases h64 : n = 64
      · subst h64
        by_cases hv : Valid (numL l 4) (numL l 6) (numL l 8) (numL l 10)
        · by_cases he : l = superL (numL l 4) (numL l 6) (numL l 8) (numL l 10)
          · exact back_no_yes h l A 64 c w hn hr h1 hv he (Lib.hid fun w hr => stake_yes l A c w hn hr hc hv he)
          · exact back_no_no h l A 64 c w hn hr h1 (Lib.hid fun w hr => stake_not l A c w hn hr hc hv he)
        · exact back_no_no h l A 64 c w hn hr h1 (Lib.hid fun w hr => stake_bad l A c w hn hr hc hv)
      · exact back_no_no h l A n c w hn hr h1 (Lib.hid fun w _ => stake_len A n c w h64)
  · exact back_long j i g p A n c w h1

theorem back_contract (H : Type) (enc : TypeId × Value → H) (W : World) (base : Nat) (args : Array Value) (ds gs : List (DataW H)) (before : List MemPlace)
    (hval : ∀ (j : Nat) t v, Try.f6.params[j]? = some t → args[j]? = some v → Value.okWide Try.prog W .any base t v)
    (hW : DataW.Whole enc Try.prog Try.f6.params.toList Rows.superBackSpec.vars false W args.toList ds gs before) :
    Calls Try.prog 6 args W fun e W' => ∃ v, e = .returned v ∧ Rows.superBackSpec.post enc Try.prog Try.f6 false true false false W args v W' := by
  have hW' := hW
  have hlt : ∀ x ∈ before, x.block < W.heap.size := fun x hx => hW.lt x hx
  obtain ⟨p, q, hA0, hV, rfl, _, _⟩ := hW
  have hA : DataW.TrodAll enc Try.prog W 0 (fun _ => true) true Try.f6.params.toList args.toList ds p := hA0
  rw [Try.params6] at hA hval
  obtain ⟨v0, vs0, d0, ds0, p0, q0, hargs, rfl, rfl, h0, r0⟩ := trodAll_cons hA
  obtain ⟨v1, vs1, d1, ds1, p1, q1, rfl, rfl, rfl, h1, r1⟩ := trodAll_cons r0
  obtain ⟨rfl, rfl, rfl⟩ := trodAll_nil r1
  obtain rfl : args = #[v0, v1] := by cases args; simp_all
  obtain ⟨rfl, rfl⟩ := trodVars_none hV
  clear hA0
  obtain ⟨j0, i0, g0, p0, rfl, bj0, bi0, bg0, bp0⟩ := open_geo (hval 0 23 v0 rfl rfl) h0
  obtain ⟨A1, n1, c1, l1, rfl, hn1, hc1, hm1, hr1⟩ := open_bytesL Try.underlying35 Try.underlying5 cells5 (hval 1 35 v1 rfl rfl) h1 (fun x hx => hlt x (by simp [hx]))
  unfold maxLen at hm1
  refine (back_walk j0 i0 g0 p0 l1 A1 n1 c1 W hn1 hr1 hc1).mono fun e W' ⟨he, hb⟩ => ?_
  subst he
  exact ⟨_, rfl, law_post laid (by kernel_rfl) Try.underlying4 (by rw [Try.params6]; decide +kernel) rfl hW' ⟨rfl, rfl, rfl⟩ hb⟩

set_option maxRecDepth 100000 in
theorem back_lifted (os : Os) (started : os.Started) (H : Type) (enc : TypeId × Value → H) :
    ReturnsInHanded {} Try.checked os 6 .any (Rows.superBackSpec.pre6 enc Try.prog Try.f6 Rows.superBackRow.domain false) (Rows.superBackSpec.post enc Try.prog Try.f6 false true false false) := by
  refine returnsInHanded_of_change (C := Try.checked) own started (by kernel_rfl) Try.func6
    (ChangeSpec.witness6 (enc := enc) (C := Try.checked) false ⟨#[], #[.agg #[.int .i64 0, .int .i64 0, .int .i64 0, .int .i64 0], .slice none 0 0], []⟩ 8 (by kernel_rfl) (by kernel_rfl) (by kernel_rfl) (by kernel_rfl)) ?_
  intro W base args ds gs before hval hW _ _
  exact back_contract H enc W base args ds gs before hval hW

/-- SuperBack is true for every input. -/
theorem back_holds : Rows.SuperBackSaid :=
  OpenClaim.holds_of_wide 6 Try.f6 rfl rfl rfl rfl rfl rfl rfl ⟨rfl, rfl, rfl, rfl, rfl⟩ rfl rfl rfl rfl rfl (by kernel_rfl) Try.func6 (by kernel_rfl)
    (of_decide_eq_true (by kernel_rfl)) (by unfold Func.isWrapper; first | (rw [if_pos (by decide +kernel)]; kernel_rfl) | (rw [if_neg (by decide +kernel)]; exact ⟨rfl, rfl⟩))
    (fun os started H enc _ => back_lifted os started H enc)
end Go.Proofs.Ytcedpmakomhigaa
