/-
  SuperParts: whatever the geometry, parts lie apart, fill the disk, and each block is in a group, as many in each.
-/
import Derived.Test.YtcedpmakomhigaaK
import Derived.Maps.RangeWalk
import Derived.Deep.RegionHeld3
namespace Go.Proofs.Ytcedpmakomhigaa
open Go.ChangeShapes Go.WideShapes Go.ChangeAt Go.RowKit Go.Maps

theorem lt_of {w : World} {p : Addr} {v : Value} (h : w.cell? p = some v) : p.block < w.heap.size := World.block_lt_of_cell? w _ h
theorem keepC {w1 w2 : World} (hb : Below w1.heap.size w1 w2) {p : Addr} {v : Value} (h : w1.cell? p = some v) : w2.cell? p = some v := (hb.cell (lt_of h)).trans h

set_option maxHeartbeats 1600000 in
set_option maxRecDepth 100000 in
theorem parts_no {j i g p : Int} (h : ¬ Valid j i g p) (w : World) : Calls Try.prog 7 #[geoV j i g p] w fun e w' => e = .returned (.bool true) ∧ Below w.heap.size w w' := by
  have H9 : Hid (∀ w, Calls Try.prog 9 #[geoV j i g p] w fun e w' => e = .returned (.tuple #[layoutV 0 0 0 0 0 0 0, .int .i64 1]) ∧ Below w.heap.size w w') := plan_no h
  have H14 : Hid (∀ w, Calls Try.prog 14 #[geoV j i g p] w fun e w' => e = .returned (.bool false) ∧ Below w.heap.size w w') := fun w => (right_no h w).mono fun e w' k => ⟨k.1, k.2.below⟩
  have H16 : Hid (∀ w, Calls Try.prog 16 #[geoV j i g p] w fun e w' => e = .returned (.int .i64 0) ∧ Below w.heap.size w w') := meta_no h
  have ls := layout_same
  have lg := guard_at25
  clear h
  unfold geoV layoutV at *
  go_enter Try.func7, Try.ntmps7
  go_wp2_with fail
  refine (shown_any _).mono ?_
  rintro e w0 ⟨rfl, hb0⟩
  obtain ⟨c0, c1, c2, c3, hb0', hs0⟩ := kept_cells hb0
  have HB0 := Lib.hid hb0'
  clear hb0 hb0'
  go_wp2_with fail
  refine (H9.out _).mono ?_
  rintro e w1 ⟨rfl, hb1⟩
  have k0 := keepC hb1 c0
  have k1 := keepC hb1 c1
  have k2 := keepC hb1 c2
  have k3 := keepC hb1 c3
  have hs1 : w.heap.size < w1.heap.size := lt_of k0
  have HB1 := Lib.hid (HB0.out.trans (hb1.mono HB0.out.size))
  clear hb1 c0 c1 c2 c3
  go_wp2_with fail
  refine (H14.out _).mono ?_
  rintro e w2 ⟨rfl, hb2⟩
  have hal : Below w1.heap.size w1 w2 := ((Below.refl _ w1).alloc (Nat.le_refl _) _).trans (hb2.mono (by simp))
  have c0 := keepC hal k0
  have c1 := keepC hal k1
  have c2 := keepC hal k2
  have c3 := keepC hal k3
  have hK : Bk w2 w1.heap.size 25 [.int .i64 0, .int .i64 0, .int .i64 0, .int .i64 0, .int .i64 0, .int .i64 0, .int .i64 0] := (Bk.new w1 25 _).below hb2 (by simp)
  have l0 := hK.cell 0
  have l1 := hK.cell 1
  have l2 := hK.cell 2
  have l3 := hK.cell 3
  have l4 := hK.cell 4
  have l5 := hK.cell 5
  have l6 := hK.cell 6
  have HB2 := Lib.hid (HB1.out.trans (hal.mono HB1.out.size))
  clear hb2 hal hK k0 k1 k2 k3
  go_wp2_with fail
  refine (H16.out _).mono ?_
  rintro e w3 ⟨rfl, hb3⟩
  have HB3 := Lib.hid (HB2.out.trans (hb3.mono HB2.out.size))
  clear hb3
  go_wp2_with fail
  go_ret
  exact ⟨rfl, HB3.out⟩

/-- How many blocks of a group were counted, n groups and r blocks having gone by. -/
def atP (P n r : Nat) (s : Int) : Int := if 0 ≤ s ∧ s < n then P else if s = n then r else 0
def thereP (n r : Nat) (s : Int) : Bool := decide (0 ≤ s ∧ (s < n ∨ s = n ∧ 0 < r))
def manyP (n r : Nat) : Nat := if 0 < r then n + 1 else n
abbrev Many (w : World) (b P n r : Nat) : Prop := MapIs (plainElem (H := Unit) Try.prog 3) (fun x => .lit (.int .i64 x)) 0 w b (atP P n r) (thereP n r) (manyP n r)
theorem many_none (w : World) (P : Nat) : Many (w.alloc (.map #[] 0)) w.heap.size P 0 0 :=
  (MapIs.made w _ _ _).as (fun s => by unfold atP; rw [if_neg (by omega)]; split <;> rfl) (fun s => by unfold thereP; symm; rw [decide_eq_false_iff_not]; omega) rfl
/-- A block more is counted. -/
theorem many_step {w : World} {b P n r : Nat} (h : Many w b P n r) (hr : r < P) (hn : n < 1000) (hP : P ≤ 1000) :
    (Instr.lookup 42 (.map (some b)) (.int .i64 (n : Int)) false).run Try.prog w = .ok (.int .i64 (r : Int)) w ∧
    ∃ w', (Instr.mapUpdate 42 (.map (some b)) (.int .i64 (n : Int)) (.int .i64 ((r : Int) + 1))).run Try.prog w = .ok () w' ∧ Many w' b P (if r + 1 = P then n + 1 else n) (if r + 1 = P then 0 else r + 1) ∧ w.grownBy w' (some b) := by
  have hn64 : I64 (n : Int) := ⟨by omega, by omega⟩
  have hat : atP P n r n = r := by unfold atP; rw [if_neg (by omega), if_pos rfl]
  have h1 := (h.look intE Try.underlying42 hn64).1
  rw [hat] at h1
  refine ⟨h1, ?_⟩
  have hm : manyP n r < maxLen := by unfold manyP maxLen; split <;> omega
  obtain ⟨w', hrun, hM, hg⟩ := h.put intE Try.underlying42 hm hn64 (x := (r : Int) + 1) ⟨by omega, by omega⟩
  refine ⟨w', hrun, hM.as (fun s => ?_) (fun s => ?_) ?_, hg⟩
  · by_cases h1 : r + 1 = P
    · rw [if_pos h1, if_pos h1]
      unfold atP
      (repeat' split) <;> omega
    · rw [if_neg h1, if_neg h1]
      unfold atP
      (repeat' split) <;> omega
  · by_cases h1 : r + 1 = P
    · rw [if_pos h1, if_pos h1]
      unfold thereP
      rw [Bool.eq_iff_iff]
      simp only [Bool.or_eq_true, beq_iff_eq, decide_eq_true_eq]
      omega
    · rw [if_neg h1, if_neg h1]
      unfold thereP
      rw [Bool.eq_iff_iff]
      simp only [Bool.or_eq_true, beq_iff_eq, decide_eq_true_eq]
      omega
  · have ht : thereP n r n = decide (0 < r) := by
      unfold thereP
      rw [Bool.eq_iff_iff]
      simp
    rw [ht]
    unfold manyP
    by_cases h0 : 0 < r <;> by_cases h1 : r + 1 = P <;> simp [h0, h1]

/-- What stands while blocks are counted: the geometry, the layout, the map. -/
structure Stand (w : World) (bl bm : Nat) (G L : List Value) (P n r : Nat) (wr : World) : Prop where
  geo : Bk wr w.heap.size 23 G
  lay : Bk wr bl 25 L
  many : Many wr bm P n r
  below : Below w.heap.size w wr
  ge : w.heap.size ≤ bm
  ne1 : w.heap.size ≠ bm
  ne2 : bl ≠ bm
section
variable {w wr w2 : World} {bl bm P n r n2 r2 : Nat} {G L : List Value}
theorem Stand.on (h : Stand w bl bm G L P n r wr) (hb : Below wr.heap.size wr w2) : Stand w bl bm G L P n r w2 :=
  ⟨h.geo.below hb h.geo.lt, h.lay.below hb h.lay.lt, h.many.keep (hb.block bm h.many.lt), h.below.trans (hb.mono h.below.size), h.ge, h.ne1, h.ne2⟩
theorem Stand.aside {q : Nat} (h : Stand w bl bm G L P n r wr) (hg : wr.grownBy w2 (some q)) (h1 : w.heap.size ≤ q) (h2 : w.heap.size ≠ q) (h3 : bl ≠ q) (h4 : bm ≠ q) : Stand w bl bm G L P n r w2 :=
  ⟨h.geo.grown hg (fun e => h2 (by injection e)), h.lay.grown hg (fun e => h3 (by injection e)), h.many.keep (hg.block bm h.many.lt (fun e => h4 (by injection e))), h.below.grown hg h.below.size (fun k hk => by injection hk with hk; subst hk; exact h1), h.ge, h.ne1, h.ne2⟩
theorem Stand.aside0 (h : Stand w bl bm G L P n r wr) (hg : wr.grownBy w2 none) : Stand w bl bm G L P n r w2 :=
  ⟨h.geo.grown hg (fun e => by cases e), h.lay.grown hg (fun e => by cases e), h.many.keep (hg.block bm h.many.lt (fun e => by cases e)), h.below.grown hg h.below.size (fun k hk => by cases hk), h.ge, h.ne1, h.ne2⟩
theorem Stand.turn (h : Stand w bl bm G L P n r wr) (hM : Many w2 bm P n2 r2) (hg : wr.grownBy w2 (some bm)) : Stand w bl bm G L P n2 r2 w2 :=
  ⟨h.geo.grown hg (fun e => h.ne1 (by injection e)), h.lay.grown hg (fun e => h.ne2 (by injection e)), hM, h.below.grown hg h.below.size (fun k hk => by injection hk with hk; subst hk; exact h.ge), h.ge, h.ne1, h.ne2⟩
end

theorem Stand.all {w u : World} {bl bm n : Nat} {P : Nat} {j i g p a1 a2 a3 a4 a5 a6 a7 : Int} (h : Stand w bl bm [.int .i64 j, .int .i64 i, .int .i64 g, .int .i64 p] [.int .i64 a1, .int .i64 a2, .int .i64 a3, .int .i64 a4, .int .i64 a5, .int .i64 a6, .int .i64 a7] P n 0 u) :
    u.cell? ⟨w.heap.size, 0, none⟩ = some (.int .i64 j) ∧ u.cell? ⟨w.heap.size, 1, none⟩ = some (.int .i64 i) ∧ u.cell? ⟨w.heap.size, 2, none⟩ = some (.int .i64 g) ∧ u.cell? ⟨w.heap.size, 3, none⟩ = some (.int .i64 p) ∧ u.cell? ⟨bl, 0, none⟩ = some (.int .i64 a1) ∧ u.cell? ⟨bl, 1, none⟩ = some (.int .i64 a2) ∧ u.cell? ⟨bl, 2, none⟩ = some (.int .i64 a3) ∧ u.cell? ⟨bl, 3, none⟩ = some (.int .i64 a4) ∧ u.cell? ⟨bl, 4, none⟩ = some (.int .i64 a5) ∧ u.cell? ⟨bl, 5, none⟩ = some (.int .i64 a6) ∧ u.cell? ⟨bl, 6, none⟩ = some (.int .i64 a7) ∧ (∀ ty, (Builtin.len_ #[42] ty #[.map (some bm)]).run Try.prog u = .ok (.int .i64 (n : Int)) u) ∧ Stand w bl bm [.int .i64 j, .int .i64 i, .int .i64 g, .int .i64 p] [.int .i64 a1, .int .i64 a2, .int .i64 a3, .int .i64 a4, .int .i64 a5, .int .i64 a6, .int .i64 a7] P n 0 u :=
  ⟨h.geo.cell 0, h.geo.cell 1, h.geo.cell 2, h.geo.cell 3, h.lay.cell 0, h.lay.cell 1, h.lay.cell 2, h.lay.cell 3, h.lay.cell 4, h.lay.cell 5, h.lay.cell 6, fun ty => by
    have := h.many.len Try.underlying42 ty
    rwa [show manyP n 0 = n by simp [manyP]] at this, h⟩
theorem keepStand {w w1 w2 : World} {bl bm n : Nat} {P : Nat} {j i g p a1 a2 a3 a4 a5 a6 a7 : Int} (hb : Below w1.heap.size w1 w2)
    (h : w1.cell? ⟨w.heap.size, 0, none⟩ = some (.int .i64 j) ∧ w1.cell? ⟨w.heap.size, 1, none⟩ = some (.int .i64 i) ∧ w1.cell? ⟨w.heap.size, 2, none⟩ = some (.int .i64 g) ∧ w1.cell? ⟨w.heap.size, 3, none⟩ = some (.int .i64 p) ∧ w1.cell? ⟨bl, 0, none⟩ = some (.int .i64 a1) ∧ w1.cell? ⟨bl, 1, none⟩ = some (.int .i64 a2) ∧ w1.cell? ⟨bl, 2, none⟩ = some (.int .i64 a3) ∧ w1.cell? ⟨bl, 3, none⟩ = some (.int .i64 a4) ∧ w1.cell? ⟨bl, 4, none⟩ = some (.int .i64 a5) ∧ w1.cell? ⟨bl, 5, none⟩ = some (.int .i64 a6) ∧ w1.cell? ⟨bl, 6, none⟩ = some (.int .i64 a7) ∧ (∀ ty, (Builtin.len_ #[42] ty #[.map (some bm)]).run Try.prog w1 = .ok (.int .i64 (n : Int)) w1) ∧ Stand w bl bm [.int .i64 j, .int .i64 i, .int .i64 g, .int .i64 p] [.int .i64 a1, .int .i64 a2, .int .i64 a3, .int .i64 a4, .int .i64 a5, .int .i64 a6, .int .i64 a7] P n 0 w1) : Stand w bl bm [.int .i64 j, .int .i64 i, .int .i64 g, .int .i64 p] [.int .i64 a1, .int .i64 a2, .int .i64 a3, .int .i64 a4, .int .i64 a5, .int .i64 a6, .int .i64 a7] P n 0 w2 := h.2.2.2.2.2.2.2.2.2.2.2.2.on hb
theorem Stand.drew {w u : World} {bl bm n : Nat} {P : Nat} {GL LL : List Value} (h : Stand w bl bm GL LL P n 0 u) : Stand w bl bm GL LL P n 0 u.drew :=
  ⟨h.geo, h.lay, h.many.keep rfl, h.below.drew, h.ge, h.ne1, h.ne2⟩

set_option maxHeartbeats 8000000 in
set_option maxRecDepth 100000 in
theorem parts_yes {J I G P : Nat} (h : Valid J I G P) (w : World) : Calls Try.prog 7 #[geoV J I G P] w fun e w' => e = .returned (.bool true) ∧ Below w.heap.size w w' := by
  have H9 : Hid (∀ w, Calls Try.prog 9 #[geoV J I G P] w fun e w' => e = .returned (.tuple #[planV J I G P, .int .i64 0]) ∧ Below w.heap.size w w') := plan_yes h
  have H16 : Hid (∀ w, Calls Try.prog 16 #[geoV J I G P] w fun e w' => e = .returned (.int .i64 (3 + (I : Int) / 2)) ∧ Below w.heap.size w w') := meta_yes h
  have HV := Lib.hid h
  have p2 := h.p2
  obtain ⟨K, hK⟩ : ∃ K : Nat, (G : Int) * P = K := ⟨G * P, by simp⟩
  have HK := Lib.hid hK
  have hmm := @run_makeMap Try.prog
  have HGr : Hid (∀ (b n r : Nat), b = n * P + r → r < P → b < K → ∀ w, Calls Try.prog 11 #[geoV J I G P, .int .i64 (b : Int)] w fun e w' => e = .returned (.tuple #[.int .i64 (n : Int), .bool true]) ∧ Below w.heap.size w w') := fun b n r hb hr hbK w => by
    have hp1 := h.p1
    have e : (b : Int) / (P : Int) = n := by
      rw [hb, Int.natCast_add, Int.natCast_mul, Int.add_comm, Int.add_mul_ediv_right _ _ (by omega), Int.ediv_eq_zero_of_lt (by omega) (by omega)]
      omega
    have := group_yes (b : Int) h ⟨by omega, by rw [hK]; omega⟩ w
    rw [e] at this
    exact this
  have HGn : Hid (∀ w, Calls Try.prog 11 #[geoV J I G P, .int .i64 (K : Int)] w fun e w' => e = .returned (.tuple #[.int .i64 0, .bool false]) ∧ Below w.heap.size w w') := fun w => group_no (K : Int) h (fun hx => by have := hx.2; rw [hK] at this; omega) w
  obtain ⟨j1, j2, i1, i2, i3, g1, g2, p1, gp⟩ := h
  rw [hK] at gp
  have e1 : (min (K : Int) 1000) = K := by omega
  have e2 : 1 + (J : Int) + 1 + 1 + 1 + (I : Int) / 2 + K - (1 + (J : Int) + 1 + 1 + 1 + (I : Int) / 2) = K := by omega
  unfold geoV planV layoutV at *
  rw [hK] at H9
  clear hK
  go_enter Try.func7, Try.ntmps7
  go_wp2_with fail
  refine (shown_any _).mono ?_
  rintro e w0 ⟨rfl, hb0⟩
  obtain ⟨c0, c1, c2, c3, hb0', hs0⟩ := kept_cells hb0
  have HB0 := Lib.hid hb0'
  have hG0 : Bk w0 w.heap.size 23 [.int .i64 (J : Int), .int .i64 (I : Int), .int .i64 (G : Int), .int .i64 (P : Int)] := (Bk.new w 23 _).below hb0 (by simp)
  have HG0 := Lib.hid hG0
  clear hG0
  clear hb0 hb0'
  go_wp2_with fail
  refine (H9.out _).mono ?_
  rintro e w1 ⟨rfl, hb1⟩
  have HG1 := Lib.hid (HG0.out.below hb1 HG0.out.lt)
  have k0 := keepC hb1 c0
  have k1 := keepC hb1 c1
  have k2 := keepC hb1 c2
  have k3 := keepC hb1 c3
  have hs1 : w.heap.size < w1.heap.size := lt_of k0
  have HB1 := Lib.hid (HB0.out.trans (hb1.mono HB0.out.size))
  clear hb1 c0 c1 c2 c3
  go_wp2_with fail
  have e3 : (w1.alloc (.cells #[.int .i64 1, .int .i64 (1 + (J : Int)), .int .i64 (1 + (J : Int) + 1), .int .i64 (1 + (J : Int) + 1 + 1), .int .i64 (1 + (J : Int) + 1 + 1 + 1), .int .i64 (1 + (J : Int) + 1 + 1 + 1 + (I : Int) / 2), .int .i64 (1 + (J : Int) + 1 + 1 + 1 + (I : Int) / 2 + K)] 25)).heap.size = w1.heap.size + 1 := by simp
  obtain ⟨bm, hbm⟩ : ∃ bm, bm = w1.heap.size + 1 := ⟨_, rfl⟩
  obtain ⟨bl, hbl⟩ : ∃ bl, bl = w1.heap.size := ⟨_, rfl⟩
  obtain ⟨LL, hLL⟩ : ∃ LL : List Value, LL = [.int .i64 1, .int .i64 (1 + (J : Int)), .int .i64 (1 + (J : Int) + 1), .int .i64 (1 + (J : Int) + 1 + 1), .int .i64 (1 + (J : Int) + 1 + 1 + 1), .int .i64 (1 + (J : Int) + 1 + 1 + 1 + (I : Int) / 2), .int .i64 (1 + (J : Int) + 1 + 1 + 1 + (I : Int) / 2 + K)] := ⟨_, rfl⟩
  have hS : Stand w bl bm [.int .i64 (J : Int), .int .i64 (I : Int), .int .i64 (G : Int), .int .i64 (P : Int)] LL P 0 0 ((w1.alloc (.cells #[.int .i64 1, .int .i64 (1 + (J : Int)), .int .i64 (1 + (J : Int) + 1), .int .i64 (1 + (J : Int) + 1 + 1), .int .i64 (1 + (J : Int) + 1 + 1 + 1), .int .i64 (1 + (J : Int) + 1 + 1 + 1 + (I : Int) / 2), .int .i64 (1 + (J : Int) + 1 + 1 + 1 + (I : Int) / 2 + K)] 25)).alloc (.map #[] 0)) := by
    have al1 := (Below.refl w1.heap.size w1).alloc (Nat.le_refl _) (.cells #[.int .i64 1, .int .i64 (1 + (J : Int)), .int .i64 (1 + (J : Int) + 1), .int .i64 (1 + (J : Int) + 1 + 1), .int .i64 (1 + (J : Int) + 1 + 1 + 1), .int .i64 (1 + (J : Int) + 1 + 1 + 1 + (I : Int) / 2), .int .i64 (1 + (J : Int) + 1 + 1 + 1 + (I : Int) / 2 + K)] 25)
    have al2 := al1.alloc (by rw [e3]; omega) (.map #[] 0)
    refine ⟨HG1.out.below al2 hs1, ?_, ?_, HB1.out.trans (al2.mono HB1.out.size), by omega, by omega, by omega⟩
    · have h1 := Bk.new w1 25 LL
      rw [← hbl] at h1
      rw [hLL] at h1 ⊢
      exact h1.below ((Below.refl _ _).alloc (Nat.le_refl _) _) (by rw [e3]; omega)
    · have h1 := many_none (w1.alloc (.cells #[.int .i64 1, .int .i64 (1 + (J : Int)), .int .i64 (1 + (J : Int) + 1), .int .i64 (1 + (J : Int) + 1 + 1), .int .i64 (1 + (J : Int) + 1 + 1 + 1), .int .i64 (1 + (J : Int) + 1 + 1 + 1 + (I : Int) / 2), .int .i64 (1 + (J : Int) + 1 + 1 + 1 + (I : Int) / 2 + K)] 25)) P
      rw [e3, ← hbm] at h1
      exact h1
  have HS := Lib.hid hS
  have HLL := Lib.hid hLL
  rw [← hbm, ← hbl]
  clear hS hbm hbl hLL e3 k0 k1 k2 k3 hs1 hs0 e1 e2
  obtain ⟨wo, hwo⟩ : ∃ wo, wo = ((w1.alloc (.cells #[.int .i64 1, .int .i64 (1 + (J : Int)), .int .i64 (1 + (J : Int) + 1), .int .i64 (1 + (J : Int) + 1 + 1), .int .i64 (1 + (J : Int) + 1 + 1 + 1), .int .i64 (1 + (J : Int) + 1 + 1 + 1 + (I : Int) / 2), .int .i64 (1 + (J : Int) + 1 + 1 + 1 + (I : Int) / 2 + K)] 25)).alloc (.map #[] 0)) := ⟨_, rfl⟩
  rw [← hwo] at HS ⊢
  clear hwo
  go_loopw [44] (fun v44 wr => ∃ b n r : Nat, v44 = .int .i64 b ∧ Hid (b = n * P + r) ∧ r < P ∧ b ≤ K ∧ n ≤ 512 ∧ Hid (Stand w bl bm [.int .i64 (J : Int), .int .i64 (I : Int), .int .i64 (G : Int), .int .i64 (P : Int)] LL P n r wr)) (fun v44 _ => K - (intOf v44).toNat)
  case atStart => exact ⟨0, 0, 0, rfl, (by unfold Hid; omega), by omega, by omega, by omega, HS.out⟩
  case round =>
    obtain ⟨b, n, r, rfl, Hb, hr, hbK, hn, Hst⟩ := hrel
    by_cases hlt : b < K
    · have g0 := Hst.out.geo.cell 0
      have g1' := Hst.out.geo.cell 1
      have g2' := Hst.out.geo.cell 2
      have g3 := Hst.out.geo.cell 3
      go_wp2_with fail
      refine (HGr.out b n r Hb.out hr hlt _).mono ?_
      rintro e w2 ⟨rfl, hb2⟩
      have HS2 := Lib.hid (Hst.out.on hb2)
      obtain ⟨hl, w3, hu, hM3, hg3⟩ := many_step HS2.out.many hr (by omega) (by omega)
      have HS3 := Lib.hid (HS2.out.turn hM3 hg3)
      clear hb2 hM3 hg3 g0 g1' g2' g3
      have hr63 : -9223372036854775808 ≤ (r : Int) + 1 ∧ (r : Int) + 1 ≤ 9223372036854775807 := ⟨by omega, by omega⟩
      have hn' : (if r + 1 = P then n + 1 else n) ≤ 512 := by
        have hb0 := Hb.out
        split
        · have h1 : n + 1 ≤ (n + 1) * P := Nat.le_mul_of_pos_right _ (by omega)
          rw [Nat.add_mul] at h1
          omega
        · exact hn
      have Hb' : Hid (b + 1 = (if r + 1 = P then n + 1 else n) * P + (if r + 1 = P then 0 else r + 1)) := by
        have hb0 := Hb.out
        unfold Hid
        split
        · rw [Nat.add_mul]; omega
        · omega
      have hr' : (if r + 1 = P then 0 else r + 1) < P := by split <;> omega
      have Hn' := Lib.hid hn'
      have Hr' := Lib.hid hr'
      generalize (if r + 1 = P then n + 1 else n) = n' at *
      generalize (if r + 1 = P then 0 else r + 1) = r' at *
      clear hn' hr'
      go_wp2_with fail
      go_roundw
      case rel => exact ⟨b + 1, n', r', by go_num, Hb'.out, Hr'.out, by omega, Hn'.out, HS3.out⟩
      case measure => simp [intOf]; omega
    · obtain rfl : b = K := by omega
      have hnr : n = G ∧ r = 0 := by
        have hb0 := Hb.out
        have hk0 : G * P = b := by have := HK.out; exact_mod_cast this
        rw [← hk0] at hb0
        have h1 : G = n := by
          rcases Nat.lt_trichotomy G n with h | h | h
          · exfalso
            have : (G + 1) * P ≤ n * P := Nat.mul_le_mul_right _ h
            rw [Nat.add_mul] at this
            omega
          · exact h
          · exfalso
            have : (n + 1) * P ≤ G * P := Nat.mul_le_mul_right _ h
            rw [Nat.add_mul] at this
            omega
        subst h1
        exact ⟨rfl, by omega⟩
      obtain ⟨rfl, rfl⟩ := hnr
      clear Hb hr hbK hlt HS
      obtain ⟨D, hD1, hD2, hD3, hD4⟩ := Hst.out.many
      have HD1 := Lib.hid hD1
      have HD2 := Lib.hid hD2
      have HD3 := Lib.hid hD3
      clear hD1 hD2 hD3 hD4
      go_wp2_with (at_range; refine wpList_range_own _ rfl _ 42 rfl 3 3 key3 Try.underlying42 (plainElem (H := Unit) Try.prog 3) bm (manyP n 0) D rfl HD1.out ?_; intro w0r hrg0 hg0 hs0)
      have HS0 := Lib.hid (Hst.out.aside0 hg0)
      obtain ⟨q, hq⟩ : ∃ q, q = wr.heap.size := ⟨_, rfl⟩
      have hqw : w.heap.size ≤ q := by rw [hq]; exact Hst.out.below.size
      have hq1 : w.heap.size ≠ q := by have := Hst.out.geo.lt; omega
      have hq2 : bl ≠ q := by have := Hst.out.lay.lt; omega
      have hq3 : bm ≠ q := by have := Hst.out.many.lt; omega
      rw [← hq] at hrg0
      have Hrg0 := Lib.hid hrg0
      have Hq := Lib.hid hq
      have Hq1 := Lib.hid hq1
      have Hq2 := Lib.hid hq2
      have Hq3 := Lib.hid hq3
      have Hqw := Lib.hid hqw
      have Hleft0 : Hid (∀ s : Int, has D (keyL s) = true → thereP n 0 s = true) := fun s hs => by rw [← HD3.out]; exact hs
      clear hrg0 hg0 hs0 hq hqw hq1 hq2 hq3
      try go_frame
      rw [← Hq.out]
      clear Hq HD1 Hst
      go_loopw [10] (fun _ wr => ∃ left cnt, Hid (wr.ranges Try.prog 3 (plainElem (H := Unit) Try.prog 3) bm q (manyP n 0) D left cnt) ∧ Hid (∀ s : Int, left (keyL s) = true → thereP n 0 s = true) ∧ Hid (Stand w bl bm [.int .i64 (J : Int), .int .i64 (I : Int), .int .i64 (n : Int), .int .i64 (P : Int)] LL P n 0 wr)) (fun _ wr => wr.rangeLeft bm q)
      case atStart => exact ⟨_, _, Hrg0, Hleft0, HS0⟩
      case round =>
        obtain ⟨left, cnt, Hrg, Hleft, Hst⟩ := hrel
        clear Hrg0 Hleft0 HS0
        go_wp2_with (at_next; refine wpList_next_ranges (α := Int) (β := Int) _ rfl _ rfl 3 key3 (plainElem (H := Unit) Try.prog 3) (Value.int .i64) (Value.int .i64) (fun key kl hk => by obtain ⟨x, hx, _⟩ := keyOf_int_inv Try.underlying3 hk; exact ⟨x, hx⟩) (fun v y hv => by obtain ⟨o, ho, _⟩ := intE.inv v y hv; exact ⟨o, ho⟩) bm q (manyP n 0) D left cnt rfl Hrg.out ?_ ?_)
        · intro hc0 hl0
          clear hl0 hc0
          have q0 := Hst.out.geo.cell 0
          have q1 := Hst.out.geo.cell 1
          have q2 := Hst.out.geo.cell 2
          have q3 := Hst.out.geo.cell 3
          have hly := Hst.out.lay
          rw [HLL.out] at hly
          have y0 := hly.cell 0
          have y1 := hly.cell 1
          have y2 := hly.cell 2
          have y3 := hly.cell 3
          have y4 := hly.cell 4
          have y5 := hly.cell 5
          have y6 := hly.cell 6
          clear hly
          have f0 : 1 + (J : Int) + 1 + 1 + 1 + (I : Int) / 2 + (b : Int) - (1 + (J : Int) + 1 + 1 + 1 + (I : Int) / 2) = b := by omega
          have f1 : 1 + (J : Int) - 1 = J := by omega
          have f2 : 1 + (J : Int) + 1 + 1 + 1 + (I : Int) / 2 - (1 + (J : Int) + 1 + 1 + 1) = (I : Int) / 2 := by omega
          have f3 : 2 * ((I : Int) / 2) = I := by omega
          have f4 : 1 + (J : Int) + 1 + 1 + 1 + (I : Int) / 2 - (1 + (J : Int)) = 3 + (I : Int) / 2 := by omega
          go_wp2_with fail
          refine (HGn.out _).mono ?_
          rintro e w3 ⟨rfl, hb3⟩
          have HS3 := Lib.hid (Hst.out.on hb3)
          clear q0 q1 q2 q3 y0 y1 y2 y3 y4 y5 y6 hb3
          have hS3 : Stand w bl bm [.int .i64 (J : Int), .int .i64 (I : Int), .int .i64 (n : Int), .int .i64 (P : Int)] [.int .i64 1, .int .i64 (1 + (J : Int)), .int .i64 (1 + (J : Int) + 1), .int .i64 (1 + (J : Int) + 1 + 1), .int .i64 (1 + (J : Int) + 1 + 1 + 1), .int .i64 (1 + (J : Int) + 1 + 1 + 1 + (I : Int) / 2), .int .i64 (1 + (J : Int) + 1 + 1 + 1 + (I : Int) / 2 + b)] P n 0 w3 := by
            have := HS3.out
            rw [HLL.out] at this
            exact this
          have HS4 := Lib.hid hS3
          clear hS3 hmm
          go_wp2_with fail
          simp only [List.append]
          have wlx : decide (1 + (J : Int) + 1 + 1 + 1 + (I : Int) / 2 + (b : Int) ≤ 4096) = true := decide_eq_true (by omega)
          have w0x : IntKind.i64.wrap ((J : Int)) = (J : Int) := IntWalk.i64_in _ (by omega)
          have w1x : IntKind.i64.wrap ((I : Int)) = (I : Int) := IntWalk.i64_in _ (by omega)
          have w2x : IntKind.i64.wrap ((I : Int) / 2) = (I : Int) / 2 := IntWalk.i64_in _ (by omega)
          have w3x : IntKind.i64.wrap (3 + (I : Int) / 2) = 3 + (I : Int) / 2 := IntWalk.i64_in _ (by omega)
          have w4x : IntKind.i64.wrap (1 + (J : Int) + 1) = 1 + (J : Int) + 1 := IntWalk.i64_in _ (by omega)
          have w5x : IntKind.i64.wrap (1 + (J : Int) + 1 + 1) = 1 + (J : Int) + 1 + 1 := IntWalk.i64_in _ (by omega)
          have w6x : IntKind.i64.wrap (1 + (J : Int) + 1 + 1 + 1) = 1 + (J : Int) + 1 + 1 + 1 := IntWalk.i64_in _ (by omega)
          have v0x : IntKind.i64.wrap (1 + (J : Int) - 1) = (J : Int) := by rw [IntWalk.i64_in _ (by omega)]; omega
          have v1x : IntKind.i64.wrap (1 + (J : Int) + 1 + 1 + 1 + (I : Int) / 2 - (1 + (J : Int) + 1 + 1 + 1)) = (I : Int) / 2 := by rw [IntWalk.i64_in _ (by omega)]; omega
          have v2x : IntKind.i64.wrap (2 * ((I : Int) / 2)) = (I : Int) := by rw [IntWalk.i64_in _ (by omega)]; omega
          have v3x : IntKind.i64.wrap (1 + (J : Int) + 1 + 1 + 1 + (I : Int) / 2 - (1 + (J : Int))) = 3 + (I : Int) / 2 := by rw [IntWalk.i64_in _ (by omega)]; omega
          go_region_held3 (fun u => u.cell? ⟨w.heap.size, 0, none⟩ = some (.int .i64 (J : Int)) ∧ u.cell? ⟨w.heap.size, 1, none⟩ = some (.int .i64 (I : Int)) ∧ u.cell? ⟨w.heap.size, 2, none⟩ = some (.int .i64 (n : Int)) ∧ u.cell? ⟨w.heap.size, 3, none⟩ = some (.int .i64 (P : Int)) ∧ u.cell? ⟨bl, 0, none⟩ = some (.int .i64 1) ∧ u.cell? ⟨bl, 1, none⟩ = some (.int .i64 (1 + (J : Int))) ∧ u.cell? ⟨bl, 2, none⟩ = some (.int .i64 (1 + (J : Int) + 1)) ∧ u.cell? ⟨bl, 3, none⟩ = some (.int .i64 (1 + (J : Int) + 1 + 1)) ∧ u.cell? ⟨bl, 4, none⟩ = some (.int .i64 (1 + (J : Int) + 1 + 1 + 1)) ∧ u.cell? ⟨bl, 5, none⟩ = some (.int .i64 (1 + (J : Int) + 1 + 1 + 1 + (I : Int) / 2)) ∧ u.cell? ⟨bl, 6, none⟩ = some (.int .i64 (1 + (J : Int) + 1 + 1 + 1 + (I : Int) / 2 + b)) ∧ (∀ ty, (Builtin.len_ #[42] ty #[.map (some bm)]).run Try.prog u = .ok (.int .i64 (n : Int)) u) ∧ Stand w bl bm [.int .i64 (J : Int), .int .i64 (I : Int), .int .i64 (n : Int), .int .i64 (P : Int)] [.int .i64 1, .int .i64 (1 + (J : Int)), .int .i64 (1 + (J : Int) + 1), .int .i64 (1 + (J : Int) + 1 + 1), .int .i64 (1 + (J : Int) + 1 + 1 + 1), .int .i64 (1 + (J : Int) + 1 + 1 + 1 + (I : Int) / 2), .int .i64 (1 + (J : Int) + 1 + 1 + 1 + (I : Int) / 2 + b)] P n 0 u)
            (first | exact HS4.out.drew.all | exact (keepStand hb (by assumption)).all)
            (first | (go_at_call 16; refine (H16.out _).mono ?_; rintro e w' ⟨rfl, hb⟩; have hB := (keepStand hb (by assumption)).below))
          all_goals
            go_wp2
            go_ret
            exact ⟨rfl, hB⟩
        · intro x o kl yd yp w2 cnt2 hkey hlk hv hat hrg2 hlt hg2 hs2 hen
          obtain ⟨x', ex, rfl, hwx⟩ := keyOf_int_inv Try.underlying3 hkey
          cases ex
          have hth := Hleft.out x hlk
          have hx : 0 ≤ x ∧ x < n := by
            unfold thereP at hth
            rw [decide_eq_true_eq] at hth
            omega
          have hS2 := Hst.out.aside hg2 Hqw.out Hq1.out Hq2.out Hq3.out
          have h64 : I64 x := ⟨by omega, by omega⟩
          have hlook := (hS2.many.look intE Try.underlying42 h64).1
          have hatx : atP P n 0 x = P := by unfold atP; rw [if_pos hx]
          rw [hatx] at hlook
          have g0 := hS2.geo.cell 2
          have g1x := hS2.geo.cell 3
          have HS2 := Lib.hid hS2
          have Hrg2 := Lib.hid hrg2
          have hms : w2.rangeLeft bm q < wr.rangeLeft bm q := by rw [hrg2.left_eq, Hrg.out.left_eq]; exact hlt
          have Hms := Lib.hid hms
          have Hleft2 : Hid (∀ s : Int, (left (keyL s) && !(keyL s).sameKey (Lit.int .i64 x)) = true → thereP n 0 s = true) := fun s hs => Hleft.out s (by simp only [Bool.and_eq_true] at hs; exact hs.1)
          have hx0 := hx.1
          have hx1 := hx.2
          clear hS2 hrg2 hkey hlk hv hat hlt hg2 hs2 hwx hth hms hatx hx h64
          go_wp2_with fail
          exact ⟨⟨_, cnt2, Hrg2, Hleft2, HS2⟩, Hms.out⟩

theorem parts_walk (j i g p : Int) (w : World) : Calls Try.prog 7 #[geoV j i g p] w fun e w' => e = .returned (.bool true) ∧ Below w.heap.size w w' := by
  by_cases h : Valid j i g p
  · obtain ⟨J, I, G, P, rfl, rfl, rfl, rfl⟩ := h.nats
    exact parts_yes h w
  · exact parts_no h w

theorem parts_contract (H : Type) (enc : TypeId × Value → H) (W : World) (base : Nat) (args : Array Value) (ds gs : List (DataW H)) (before : List MemPlace)
    (hval : ∀ (j : Nat) t v, Try.f7.params[j]? = some t → args[j]? = some v → Value.okWide Try.prog W .any base t v)
    (hW : DataW.Whole enc Try.prog Try.f7.params.toList Rows.superPartsSpec.vars false W args.toList ds gs before) :
    Calls Try.prog 7 args W fun e W' => ∃ v, e = .returned v ∧ Rows.superPartsSpec.post enc Try.prog Try.f7 false true false false W args v W' := by
  have hW' := hW
  have hlt : ∀ x ∈ before, x.block < W.heap.size := fun x hx => hW.lt x hx
  obtain ⟨p, q, hA0, hV, rfl, _, _⟩ := hW
  have hA : DataW.TrodAll enc Try.prog W 0 (fun _ => true) true Try.f7.params.toList args.toList ds p := hA0
  rw [Try.params7] at hA hval
  obtain ⟨v0, vs0, d0, ds0, p0, q0, hargs, rfl, rfl, h0, r0⟩ := trodAll_cons hA
  obtain ⟨rfl, rfl, rfl⟩ := trodAll_nil r0
  obtain rfl : args = #[v0] := by cases args; simp_all
  obtain ⟨rfl, rfl⟩ := trodVars_none hV
  clear hA0
  obtain ⟨j0, i0, g0, p0, rfl, bj0, bi0, bg0, bp0⟩ := open_geo (hval 0 23 v0 rfl rfl) h0
  refine (parts_walk j0 i0 g0 p0 W).mono fun e W' ⟨he, hb⟩ => ?_
  subst he
  exact ⟨_, rfl, law_post laid (by kernel_rfl) Try.underlying4 (by rw [Try.params7]; decide +kernel) rfl hW' ⟨rfl, rfl, rfl⟩ hb⟩

set_option maxRecDepth 100000 in
theorem parts_lifted (os : Os) (started : os.Started) (H : Type) (enc : TypeId × Value → H) :
    ReturnsInHanded {} Try.checked os 7 .any (Rows.superPartsSpec.pre6 enc Try.prog Try.f7 Rows.superPartsRow.domain false) (Rows.superPartsSpec.post enc Try.prog Try.f7 false true false false) := by
  refine returnsInHanded_of_change (C := Try.checked) own started (by kernel_rfl) Try.func7
    (ChangeSpec.witness6 (enc := enc) (C := Try.checked) false ⟨#[], #[.agg #[.int .i64 0, .int .i64 0, .int .i64 0, .int .i64 0]], []⟩ 8 (by kernel_rfl) (by kernel_rfl) (by kernel_rfl) (by kernel_rfl)) ?_
  intro W base args ds gs before hval hW _ _
  exact parts_contract H enc W base args ds gs before hval hW

/-- SuperParts is true for every input. -/
theorem parts_holds : Rows.SuperPartsSaid :=
  OpenClaim.holds_of_wide 7 Try.f7 rfl rfl rfl rfl rfl rfl rfl ⟨rfl, rfl, rfl, rfl, rfl⟩ rfl rfl rfl rfl rfl (by kernel_rfl) Try.func7 (by kernel_rfl)
    (of_decide_eq_true (by kernel_rfl)) (by unfold Func.isWrapper; first | (rw [if_pos (by decide +kernel)]; kernel_rfl) | (rw [if_neg (by decide +kernel)]; exact ⟨rfl, rfl⟩))
    (fun os started H enc _ => parts_lifted os started H enc)
end Go.Proofs.Ytcedpmakomhigaa
