/-
  Which disk a volume is laid on, and a disk that one is laid on.
-/
import Derived.Test.YtcjkbmmjpkghlaaGreatQTopA
import Derived.Test.YtcjkbmmjpkghlaaGreatQSuper
import Derived.Test.YtcjkbmmjpkghlaaGreatQMetaR
import Derived.Test.YtcjkbmmjpkghlaaGreatQMetaX8
namespace Go.Proofs.YtcjkbmmjpkghlaaGreat.Vol
open Go.RowKit Keep Meta

/-- How a volume may be parted. -/
structure VG (j i g pp : Nat) : Prop where
  v : Super.Valid (j : Int) (i : Int) (g : Int) (pp : Int)
  room : (i : Int) / 2 + 84 + ((i : Int) / 2 + 82) / 15 ≤ (j : Int) - 1
/-- Where its blocks begin, and how many sectors it has. -/
def blk0 (j i : Nat) : Nat := 1 + j + 1 + 1 + 1 + i / 2
def allN (j i g pp : Nat) : Nat := blk0 j i + g * pp
theorem allN_eq (j i g pp : Nat) : ((allN j i g pp : Nat) : Int) = 1 + (j : Int) + 1 + 1 + 1 + (i : Int) / 2 + (g : Int) * (pp : Int) := by
  unfold allN blk0
  push_cast
  omega
theorem VG.all {j i g pp : Nat} (h : VG j i g pp) : allN j i g pp ≤ 2000 := by
  have h1 := h.v.j2
  have h2 := h.v.i2
  have h3 := h.v.gp
  have := allN_eq j i g pp
  omega
theorem len_any' {w : World} {S : Nat → Prop} {b : Nat} {k : Dk Sx} (h : IsDisk sx w S b k) : Calls Tryz.prog 43 #[.pointer (some ⟨b, 0, none⟩)] w fun e w' => e = .returned (.int .i64 (k.safe.length : Int)) ∧ w = w' := len_any w S b k h
theorem need_lit (n : Int) (h : 1 ≤ n) (hm : n ≤ 1000) (w : World) : Calls Tryz.prog 153 #[.int .i64 n] w fun e w' => e = .returned (.int .i64 (n + 1 + (n - 1) / 15)) ∧ w = w' := by
  have := need_any n (by unfold I64; omega) (by omega) w
  unfold needI at this
  rw [if_neg (by omega)] at this
  exact this
/-- Seven cells, written one after the other. -/
theorem store7 {u : World} {q : Nat} {e : TypeId} {a0 a1 a2 a3 a4 a5 a6 : Value} (h : Bk u q e [a0, a1, a2, a3, a4, a5, a6]) (v0 v1 v2 v3 v4 v5 v6 : Value) :
    ∃ u', (((((((u.setCell ⟨q, 0, none⟩ v0).setCell ⟨q, 1, none⟩ v1).setCell ⟨q, 2, none⟩ v2).setCell ⟨q, 3, none⟩ v3).setCell ⟨q, 4, none⟩ v4).setCell ⟨q, 5, none⟩ v5).setCell ⟨q, 6, none⟩ v6) = u' ∧ Bk u' q e [v0, v1, v2, v3, v4, v5, v6] ∧ (∀ B, B ≤ q → Below B u u') ∧ u.grownBy u' (some q) := by
  refine ⟨_, rfl, ?_, fun B hB => ?_, ?_⟩
  · have := (((((((h.set 0 v0).set 1 v1).set 2 v2).set 3 v3).set 4 v4).set 5 v5).set 6 v6)
    simpa only [List.set_cons_zero, List.set_cons_succ] using this
  · repeat (refine Below.setCell ?_ hB _)
    exact Below.refl _ _
  · exact only_set (only_set (only_set (only_set (only_set (only_set (only_set (World.grownBy.refl _ _) 0 v0) 1 v1) 2 v2) 3 v3) 4 v4) 5 v5) 6 v6
theorem store4 {u : World} {q : Nat} {e : TypeId} {a0 a1 a2 a3 : Value} (h : Bk u q e [a0, a1, a2, a3]) (v0 v1 v2 v3 : Value) :
    ∃ u', ((((u.setCell ⟨q, 0, none⟩ v0).setCell ⟨q, 1, none⟩ v1).setCell ⟨q, 2, none⟩ v2).setCell ⟨q, 3, none⟩ v3) = u' ∧ Bk u' q e [v0, v1, v2, v3] ∧ (∀ B, B ≤ q → Below B u u') ∧ u.grownBy u' (some q) := by
  refine ⟨_, rfl, ?_, fun B hB => ?_, ?_⟩
  · have := ((((h.set 0 v0).set 1 v1).set 2 v2).set 3 v3)
    simpa only [List.set_cons_zero, List.set_cons_succ] using this
  · repeat (refine Below.setCell ?_ hB _)
    exact Below.refl _ _
  · exact only_set (only_set (only_set (only_set (World.grownBy.refl _ _) 0 v0) 1 v1) 2 v2) 3 v3
theorem seven_cells {w : World} {g : Nat} {e : TypeId} {a0 a1 a2 a3 a4 a5 a6 : Value} (h : Bk w g e [a0, a1, a2, a3, a4, a5, a6]) : w.cell? ⟨g, 0, none⟩ = some a0 ∧ w.cell? ⟨g, 1, none⟩ = some a1 ∧ w.cell? ⟨g, 2, none⟩ = some a2 ∧ w.cell? ⟨g, 3, none⟩ = some a3 ∧ w.cell? ⟨g, 4, none⟩ = some a4 ∧ w.cell? ⟨g, 5, none⟩ = some a5 ∧ w.cell? ⟨g, 6, none⟩ = some a6 :=
  ⟨h.cell 0, h.cell 1, h.cell 2, h.cell 3, h.cell 4, h.cell 5, h.cell 6⟩
set_option maxRecDepth 100000 in
set_option maxHeartbeats 6400000 in
/-- A disk with room for it. -/
theorem plan_ok {j i g pp : Nat} (h : VG j i g pp) {w : World} {S : Nat → Prop} {b : Nat} {k : Dk Sx} (hD : IsDisk sx w S b k) (hlen : allN j i g pp ≤ k.safe.length) :
    Calls Tryz.prog 93 #[.pointer (some ⟨b, 0, none⟩), .agg #[.int .i64 (j : Int), .int .i64 (i : Int), .int .i64 (g : Int), .int .i64 (pp : Int)]] w fun e w' => e = .returned (.tuple #[.agg #[.int .i64 1, .int .i64 (1 + (j : Int)), .int .i64 (1 + (j : Int) + 1), .int .i64 (1 + (j : Int) + 1 + 1), .int .i64 (1 + (j : Int) + 1 + 1 + 1), .int .i64 (1 + (j : Int) + 1 + 1 + 1 + (i : Int) / 2), .int .i64 (1 + (j : Int) + 1 + 1 + 1 + (i : Int) / 2 + (g : Int) * (pp : Int))], .int .i64 0]) ∧ Below w.heap.size w w' := by
  have hall := allN_eq j i g pp
  have hroom := h.room
  have hj2 := h.v.j2
  have hi1 := h.v.i1
  have hi2 := h.v.i2
  have hlt : decide ((k.safe.length : Int) < 1 + (j : Int) + 1 + 1 + 1 + (i : Int) / 2 + (g : Int) * (pp : Int)) = false := decide_eq_false (by omega)
  obtain ⟨nn, hnn⟩ : ∃ nn : Int, 3 + (i : Int) / 2 = nn := ⟨_, rfl⟩
  have hn83 : nn ≤ 100 ∧ 3 ≤ nn := by omega
  have hw1 : IntKind.i64.wrap (nn + 80) = nn + 80 := by rw [IntKind.wrap_i64]; omega
  have hw2 : IntKind.i64.wrap ((j : Int) - 1) = (j : Int) - 1 := by rw [IntKind.wrap_i64]; omega
  have hgt : decide ((j : Int) - 1 < nn + 80 + 1 + (nn + 80 - 1) / 15) = false := decide_eq_false (by omega)
  have HPL : Hid (∀ u : World, Calls Tryz.prog 46 #[.agg #[.int .i64 (j : Int), .int .i64 (i : Int), .int .i64 (g : Int), .int .i64 (pp : Int)]] u fun e w' => e = .returned (.tuple #[.agg #[.int .i64 1, .int .i64 (1 + (j : Int)), .int .i64 (1 + (j : Int) + 1), .int .i64 (1 + (j : Int) + 1 + 1), .int .i64 (1 + (j : Int) + 1 + 1 + 1), .int .i64 (1 + (j : Int) + 1 + 1 + 1 + (i : Int) / 2), .int .i64 (1 + (j : Int) + 1 + 1 + 1 + (i : Int) / 2 + (g : Int) * (pp : Int))], .int .i64 0]) ∧ Below u.heap.size u w') := Lib.hid (fun u => Super.plan_yes h.v u)
  have HME : Hid (∀ u : World, Calls Tryz.prog 53 #[.agg #[.int .i64 (j : Int), .int .i64 (i : Int), .int .i64 (g : Int), .int .i64 (pp : Int)]] u fun e w' => e = .returned (.int .i64 nn) ∧ Below u.heap.size u w') := Lib.hid (fun u => by rw [← hnn]; exact Super.meta_yes h.v u)
  have HNE : Hid (∀ u : World, Calls Tryz.prog 153 #[.int .i64 (nn + 80)] u fun e w' => e = .returned (.int .i64 (nn + 80 + 1 + (nn + 80 - 1) / 15)) ∧ u = w') := Lib.hid (fun u => need_lit (nn + 80) (by omega) (by omega) u)
  obtain ⟨W, hW⟩ : ∃ W, W = (w.alloc (.cells #[.int .i64 (j : Int), .int .i64 (i : Int), .int .i64 (g : Int), .int .i64 (pp : Int)] 29)).alloc (.cells #[.int .i64 0, .int .i64 0, .int .i64 0, .int .i64 0, .int .i64 0, .int .i64 0, .int .i64 0] 82) := ⟨_, rfl⟩
  have hbW : Below w.heap.size w W := by rw [hW]; exact (Below.refl _ _).alloc (Nat.le_refl _) _ |>.alloc (by simp) _
  have hG : Bk W w.heap.size 29 [.int .i64 (j : Int), .int .i64 (i : Int), .int .i64 (g : Int), .int .i64 (pp : Int)] := by rw [hW]; exact (Bk.new w 29 [.int .i64 (j : Int), .int .i64 (i : Int), .int .i64 (g : Int), .int .i64 (pp : Int)]).below (al_below _ _) (by simp)
  have hR : Bk W (w.heap.size + 1) 82 [.int .i64 0, .int .i64 0, .int .i64 0, .int .i64 0, .int .i64 0, .int .i64 0, .int .i64 0] := by
    rw [hW]
    have := Bk.new (w.alloc (.cells #[.int .i64 (j : Int), .int .i64 (i : Int), .int .i64 (g : Int), .int .i64 (pp : Int)] 29)) 82 [.int .i64 0, .int .i64 0, .int .i64 0, .int .i64 0, .int .i64 0, .int .i64 0, .int .i64 0]
    simpa using this
  have HG := Lib.hid hG
  have HR := Lib.hid hR
  have HB := Lib.hid hbW
  have HD := Lib.hid (hD.below hbW)
  have HBW := Lib.hid (Below.refl W.heap.size W)
  have HSZ : Hid (W.heap.size = w.heap.size + 2) := Lib.hid (by rw [hW]; simp)
  obtain ⟨g0, g1, g2, g3⟩ := Meta.four_cells hG
  clear hbW hG hR hD hall hroom hnn h hlen
  go_enter Tryz.func93, Tryz.ntmps93
  go_upto_region 1 with fail
  rw [← hW]
  clear hW
  go_upto_region 2 with (go_at_call 46; (with_reducible refine (HPL.out _).mono ?_); rintro e w1 ⟨he, hb⟩; obtain rfl := he; replace HBW := Lib.hid (HBW.out.trans (hb.mono HBW.out.size)); replace HG := Lib.hid (HG.out.below hb HG.out.lt); replace HR := Lib.hid (HR.out.below hb HR.out.lt); replace HD := Lib.hid (HD.out.below hb); have HZ1 := Lib.hid hb.size; clear g0 g1 g2 g3; clear hb; obtain ⟨g0, g1, g2, g3⟩ := Meta.four_cells HG.out)
  have hal := al_below w1 (.cells #[.int .i64 1, .int .i64 (1 + (j : Int)), .int .i64 (1 + (j : Int) + 1), .int .i64 (1 + (j : Int) + 1 + 1), .int .i64 (1 + (j : Int) + 1 + 1 + 1), .int .i64 (1 + (j : Int) + 1 + 1 + 1 + (i : Int) / 2), .int .i64 (1 + (j : Int) + 1 + 1 + 1 + (i : Int) / 2 + (g : Int) * (pp : Int))] 82)
  replace HBW := Lib.hid (HBW.out.trans (hal.mono HBW.out.size))
  replace HG := Lib.hid (HG.out.below hal HG.out.lt)
  replace HR := Lib.hid (HR.out.below hal HR.out.lt)
  replace HD := Lib.hid (HD.out.below hal)
  have HL := Lib.hid (Bk.new w1 82 [.int .i64 1, .int .i64 (1 + (j : Int)), .int .i64 (1 + (j : Int) + 1), .int .i64 (1 + (j : Int) + 1 + 1), .int .i64 (1 + (j : Int) + 1 + 1 + 1), .int .i64 (1 + (j : Int) + 1 + 1 + 1 + (i : Int) / 2), .int .i64 (1 + (j : Int) + 1 + 1 + 1 + (i : Int) / 2 + (g : Int) * (pp : Int))])
  clear g0 g1 g2 g3
  clear hal
  generalize hzU1 : w1.heap.size = zU1 at *
  clear hzU1
  generalize w1.alloc (.cells #[.int .i64 1, .int .i64 (1 + (j : Int)), .int .i64 (1 + (j : Int) + 1), .int .i64 (1 + (j : Int) + 1 + 1), .int .i64 (1 + (j : Int) + 1 + 1 + 1), .int .i64 (1 + (j : Int) + 1 + 1 + 1 + (i : Int) / 2), .int .i64 (1 + (j : Int) + 1 + 1 + 1 + (i : Int) / 2 + (g : Int) * (pp : Int))] 82) = U1 at *
  have HZ2 := Lib.hid HBW.out.size
  have hS0 : Below U1.heap.size U1 U1.drew := (Below.refl _ _).drew
  refine wp_region_held_drew (S := fun u => Below U1.heap.size U1 u) (by kernel_rfl) hS0 (fun hHeld => ?_)
  clear hS0
  generalize hu0 : U1.drew = z0_ at *
  clear hu0
  refine wpAnyH_take (i := 0) (oi := _) (v := ?_) (by simp only [List.getElem?_toArray, List.getElem?_cons_zero]; rfl) (by kernel_rfl) (by kernel_rfl) (by kernel_rfl) (by exact fun _ _ _ h => h) (Or.inl ⟨by rfl, ?hya0⟩) (by exact hHeld) ?rea0
  case hya0 => (intro u hu; obtain ⟨g0, g1, g2, g3⟩ := Meta.four_cells (HG.out.below hu HG.out.lt); obtain ⟨l0, l1, l2, l3, l4, l5, l6⟩ := seven_cells (HL.out.below hu HL.out.lt); clear hu; go_simp <;> with_reducible rfl)
  try simp only [Act.put, List.setIfInBounds_toArray, List.set_cons_zero, List.set_cons_succ]
  refine wpAnyH_take (i := 1) (oi := _) (v := ?_) (by simp only [List.getElem?_toArray, List.getElem?_cons_succ, List.getElem?_cons_zero]; rfl) (by kernel_rfl) (by kernel_rfl) (by kernel_rfl) (by exact fun _ _ _ h => h) (Or.inl ⟨by rfl, ?hya1⟩) (by exact hHeld) ?rea1
  case hya1 => (intro u hu; obtain ⟨g0, g1, g2, g3⟩ := Meta.four_cells (HG.out.below hu HG.out.lt); obtain ⟨l0, l1, l2, l3, l4, l5, l6⟩ := seven_cells (HL.out.below hu HL.out.lt); clear hu; go_simp <;> with_reducible rfl)
  try simp only [Act.put, List.setIfInBounds_toArray, List.set_cons_zero, List.set_cons_succ]
  refine wpAnyH_take (i := 2) (oi := _) (v := ?_) (by simp only [List.getElem?_toArray, List.getElem?_cons_succ, List.getElem?_cons_zero]; rfl) (by kernel_rfl) (by kernel_rfl) (by kernel_rfl) (by exact fun _ _ _ h => h) (Or.inl ⟨by rfl, ?hya2⟩) (by exact hHeld) ?rea2
  case hya2 => (intro u hu; obtain ⟨g0, g1, g2, g3⟩ := Meta.four_cells (HG.out.below hu HG.out.lt); obtain ⟨l0, l1, l2, l3, l4, l5, l6⟩ := seven_cells (HL.out.below hu HL.out.lt); clear hu; go_simp <;> with_reducible rfl)
  try simp only [Act.put, List.setIfInBounds_toArray, List.set_cons_zero, List.set_cons_succ]
  refine wpAnyH_take (i := 3) (oi := _) (v := ?_) (by simp only [List.getElem?_toArray, List.getElem?_cons_succ, List.getElem?_cons_zero]; rfl) (by kernel_rfl) (by kernel_rfl) (by kernel_rfl) (by exact fun _ _ _ h => h) (Or.inl ⟨by rfl, ?hya3⟩) (by exact hHeld) ?rea3
  case hya3 => (intro u hu; obtain ⟨g0, g1, g2, g3⟩ := Meta.four_cells (HG.out.below hu HG.out.lt); obtain ⟨l0, l1, l2, l3, l4, l5, l6⟩ := seven_cells (HL.out.below hu HL.out.lt); clear hu; go_simp <;> with_reducible rfl)
  try simp only [Act.put, List.setIfInBounds_toArray, List.set_cons_zero, List.set_cons_succ]
  refine wpAnyH_take (i := 5) (oi := _) (v := ?_) (by simp only [List.getElem?_toArray, List.getElem?_cons_succ, List.getElem?_cons_zero]; rfl) (by kernel_rfl) (by kernel_rfl) (by kernel_rfl) (by exact fun _ _ _ h => h) (Or.inl ⟨by rfl, ?hya5⟩) (by exact hHeld) ?rea5
  case hya5 => (intro u hu; obtain ⟨g0, g1, g2, g3⟩ := Meta.four_cells (HG.out.below hu HG.out.lt); obtain ⟨l0, l1, l2, l3, l4, l5, l6⟩ := seven_cells (HL.out.below hu HL.out.lt); clear hu; go_simp <;> with_reducible rfl)
  try simp only [Act.put, List.setIfInBounds_toArray, List.set_cons_zero, List.set_cons_succ]
  refine wpAnyH_take (i := 6) (oi := _) (v := ?_) (by simp only [List.getElem?_toArray, List.getElem?_cons_succ, List.getElem?_cons_zero]; rfl) (by kernel_rfl) (by kernel_rfl) (by kernel_rfl) (by exact fun _ _ _ h => h) (Or.inl ⟨by rfl, ?hya6⟩) (by exact hHeld) ?rea6
  case hya6 => (intro u hu; obtain ⟨g0, g1, g2, g3⟩ := Meta.four_cells (HG.out.below hu HG.out.lt); obtain ⟨l0, l1, l2, l3, l4, l5, l6⟩ := seven_cells (HL.out.below hu HL.out.lt); clear hu; go_simp <;> with_reducible rfl)
  try simp only [Act.put, List.setIfInBounds_toArray, List.set_cons_zero, List.set_cons_succ]
  refine wpAnyH_ready (rs := [4]) (by kernel_rfl) (by simp) ?_
  refine AllReadyH.cons (o := _) (by simp only [List.getElem?_toArray, List.getElem?_cons_succ, List.getElem?_cons_zero]; rfl) (fun K hK => ?_) AllReadyH.nil
  go_simp
  (with_reducible refine (len_any' (HD.out.below hHeld)).mono ?_)
  rintro e x1 ⟨he, hb⟩; obtain rfl := he; subst hb
  have hS := hHeld
  go_simp
  refine hK.out _ _ hS (fun hHeld2 => ?_)
  clear hK K hHeld hS
  have hHeld := hHeld2
  clear hHeld2
  try simp only [Act.put, List.setIfInBounds_toArray, List.set_cons_zero, List.set_cons_succ]
  refine wpAnyH_take (i := 7) (oi := _) (v := ?_) (by simp only [List.getElem?_toArray, List.getElem?_cons_succ, List.getElem?_cons_zero]; rfl) (by kernel_rfl) (by kernel_rfl) (by kernel_rfl) (by exact fun _ _ _ h => h) (Or.inl ⟨by rfl, ?hya7⟩) (by exact hHeld) ?rea7
  case hya7 => (intro u hu; obtain ⟨g0, g1, g2, g3⟩ := Meta.four_cells (HG.out.below hu HG.out.lt); obtain ⟨l0, l1, l2, l3, l4, l5, l6⟩ := seven_cells (HL.out.below hu HL.out.lt); clear hu; go_simp <;> with_reducible rfl)
  try simp only [Act.put, List.setIfInBounds_toArray, List.set_cons_zero, List.set_cons_succ]
  refine wpAnyH_take (i := 8) (oi := _) (v := ?_) (by simp only [List.getElem?_toArray, List.getElem?_cons_succ, List.getElem?_cons_zero]; rfl) (by kernel_rfl) (by kernel_rfl) (by kernel_rfl) (by exact fun _ _ _ h => h) (Or.inl ⟨by rfl, ?hya8⟩) (by exact hHeld) ?rea8
  case hya8 => (intro u hu; obtain ⟨g0, g1, g2, g3⟩ := Meta.four_cells (HG.out.below hu HG.out.lt); obtain ⟨l0, l1, l2, l3, l4, l5, l6⟩ := seven_cells (HL.out.below hu HL.out.lt); clear hu; go_simp <;> with_reducible rfl)
  try simp only [Act.put, List.setIfInBounds_toArray, List.set_cons_zero, List.set_cons_succ]
  refine wpAnyH_take (i := 9) (oi := _) (v := ?_) (by simp only [List.getElem?_toArray, List.getElem?_cons_succ, List.getElem?_cons_zero]; rfl) (by kernel_rfl) (by kernel_rfl) (by kernel_rfl) (by exact fun _ _ _ h => h) (Or.inl ⟨by rfl, ?hya9⟩) (by exact hHeld) ?rea9
  case hya9 => (intro u hu; obtain ⟨g0, g1, g2, g3⟩ := Meta.four_cells (HG.out.below hu HG.out.lt); obtain ⟨l0, l1, l2, l3, l4, l5, l6⟩ := seven_cells (HL.out.below hu HL.out.lt); clear hu; go_simp <;> with_reducible rfl)
  try simp only [Act.put, List.setIfInBounds_toArray, List.set_cons_zero, List.set_cons_succ]
  refine wpAnyH_take (i := 10) (oi := _) (v := ?_) (by simp only [List.getElem?_toArray, List.getElem?_cons_succ, List.getElem?_cons_zero]; rfl) (by kernel_rfl) (by kernel_rfl) (by kernel_rfl) (by exact fun _ _ _ h => h) (Or.inl ⟨by rfl, ?hya10⟩) (by exact hHeld) ?rea10
  case hya10 => (intro u hu; obtain ⟨g0, g1, g2, g3⟩ := Meta.four_cells (HG.out.below hu HG.out.lt); obtain ⟨l0, l1, l2, l3, l4, l5, l6⟩ := seven_cells (HL.out.below hu HL.out.lt); clear hu; go_simp <;> with_reducible rfl)
  try simp only [Act.put, List.setIfInBounds_toArray, List.set_cons_zero, List.set_cons_succ]
  refine wpAnyH_take (i := 14) (oi := _) (v := ?_) (by simp only [List.getElem?_toArray, List.getElem?_cons_succ, List.getElem?_cons_zero]; rfl) (by kernel_rfl) (by kernel_rfl) (by kernel_rfl) (by exact fun _ _ _ h => h) (Or.inl ⟨by rfl, ?hya14⟩) (by exact hHeld) ?rea14
  case hya14 => (intro u hu; obtain ⟨g0, g1, g2, g3⟩ := Meta.four_cells (HG.out.below hu HG.out.lt); obtain ⟨l0, l1, l2, l3, l4, l5, l6⟩ := seven_cells (HL.out.below hu HL.out.lt); clear hu; go_simp <;> with_reducible rfl)
  try simp only [Act.put, List.setIfInBounds_toArray, List.set_cons_zero, List.set_cons_succ]
  refine wpAnyH_take (i := 15) (oi := _) (v := ?_) (by simp only [List.getElem?_toArray, List.getElem?_cons_succ, List.getElem?_cons_zero]; rfl) (by kernel_rfl) (by kernel_rfl) (by kernel_rfl) (by exact fun _ _ _ h => h) (Or.inl ⟨by rfl, ?hya15⟩) (by exact hHeld) ?rea15
  case hya15 => (intro u hu; obtain ⟨g0, g1, g2, g3⟩ := Meta.four_cells (HG.out.below hu HG.out.lt); obtain ⟨l0, l1, l2, l3, l4, l5, l6⟩ := seven_cells (HL.out.below hu HL.out.lt); clear hu; go_simp <;> with_reducible rfl)
  try simp only [Act.put, List.setIfInBounds_toArray, List.set_cons_zero, List.set_cons_succ]
  refine wpAnyH_take (i := 16) (oi := _) (v := ?_) (by simp only [List.getElem?_toArray, List.getElem?_cons_succ, List.getElem?_cons_zero]; rfl) (by kernel_rfl) (by kernel_rfl) (by kernel_rfl) (by exact fun _ _ _ h => h) (Or.inl ⟨by rfl, ?hya16⟩) (by exact hHeld) ?rea16
  case hya16 => (intro u hu; obtain ⟨g0, g1, g2, g3⟩ := Meta.four_cells (HG.out.below hu HG.out.lt); obtain ⟨l0, l1, l2, l3, l4, l5, l6⟩ := seven_cells (HL.out.below hu HL.out.lt); clear hu; go_simp <;> with_reducible rfl)
  try simp only [Act.put, List.setIfInBounds_toArray, List.set_cons_zero, List.set_cons_succ]
  refine wpAnyH_ready (rs := [11]) (by kernel_rfl) (by simp) ?_
  refine AllReadyH.cons (o := _) (by simp only [List.getElem?_toArray, List.getElem?_cons_succ, List.getElem?_cons_zero]; rfl) (fun K hK => ?_) AllReadyH.nil
  go_simp
  (with_reducible refine (HME.out _).mono ?_)
  rintro e x2 ⟨he, hb⟩; obtain rfl := he
  have hS : Below U1.heap.size U1 x2 := hHeld.trans (hb.mono hHeld.size)
  clear hb
  go_simp
  refine hK.out _ _ hS (fun hHeld2 => ?_)
  clear hK K hHeld hS
  have hHeld := hHeld2
  clear hHeld2
  try simp only [Act.put, List.setIfInBounds_toArray, List.set_cons_zero, List.set_cons_succ]
  refine wpAnyH_take (i := 12) (oi := _) (v := ?_) (by simp only [List.getElem?_toArray, List.getElem?_cons_succ, List.getElem?_cons_zero]; rfl) (by kernel_rfl) (by kernel_rfl) (by kernel_rfl) (by exact fun _ _ _ h => h) (Or.inl ⟨by rfl, ?hya12⟩) (by exact hHeld) ?rea12
  case hya12 => (intro u hu; obtain ⟨g0, g1, g2, g3⟩ := Meta.four_cells (HG.out.below hu HG.out.lt); obtain ⟨l0, l1, l2, l3, l4, l5, l6⟩ := seven_cells (HL.out.below hu HL.out.lt); clear hu; go_simp <;> with_reducible rfl)
  try simp only [Act.put, List.setIfInBounds_toArray, List.set_cons_zero, List.set_cons_succ]
  refine wpAnyH_ready (rs := [13]) (by kernel_rfl) (by simp) ?_
  refine AllReadyH.cons (o := _) (by simp only [List.getElem?_toArray, List.getElem?_cons_succ, List.getElem?_cons_zero]; rfl) (fun K hK => ?_) AllReadyH.nil
  go_simp
  (with_reducible refine (HNE.out _).mono ?_)
  rintro e x3 ⟨he, hb⟩; obtain rfl := he; subst hb
  have hS := hHeld
  go_simp
  refine hK.out _ _ hS (fun hHeld2 => ?_)
  clear hK K hHeld hS
  have hHeld := hHeld2
  clear hHeld2
  try simp only [Act.put, List.setIfInBounds_toArray, List.set_cons_zero, List.set_cons_succ]
  refine wpAnyH_take (i := 17) (oi := _) (v := ?_) (by simp only [List.getElem?_toArray, List.getElem?_cons_succ, List.getElem?_cons_zero]; rfl) (by kernel_rfl) (by kernel_rfl) (by kernel_rfl) (by exact fun _ _ _ h => h) (Or.inl ⟨by rfl, ?hya17⟩) (by exact hHeld) ?rea17
  case hya17 => (intro u hu; obtain ⟨g0, g1, g2, g3⟩ := Meta.four_cells (HG.out.below hu HG.out.lt); obtain ⟨l0, l1, l2, l3, l4, l5, l6⟩ := seven_cells (HL.out.below hu HL.out.lt); clear hu; go_simp <;> with_reducible rfl)
  try simp only [Act.put, List.setIfInBounds_toArray, List.set_cons_zero, List.set_cons_succ]
  refine wpAnyH_take (i := 18) (oi := _) (v := ?_) (by simp only [List.getElem?_toArray, List.getElem?_cons_succ, List.getElem?_cons_zero]; rfl) (by kernel_rfl) (by kernel_rfl) (by kernel_rfl) (by exact fun _ _ _ h => h) (Or.inl ⟨by rfl, ?hya18⟩) (by exact hHeld) ?rea18
  case hya18 => (intro u hu; obtain ⟨g0, g1, g2, g3⟩ := Meta.four_cells (HG.out.below hu HG.out.lt); obtain ⟨l0, l1, l2, l3, l4, l5, l6⟩ := seven_cells (HL.out.below hu HL.out.lt); clear hu; go_simp <;> with_reducible rfl)
  try simp only [Act.put, List.setIfInBounds_toArray, List.set_cons_zero, List.set_cons_succ]
  refine wpAnyH_done (by kernel_rfl) ?_ _
  clear HPL HME HNE hw1 hw2 hlt hgt hn83
  have HBE : Hid (Below w.heap.size U1 x2) := Lib.hid (hHeld.mono (by have := HSZ.out; have := HZ2.out; omega))
  obtain ⟨l0, l1, l2, l3, l4, l5, l6⟩ := seven_cells (HL.out.below hHeld HL.out.lt)
  have hrx := HR.out.below hHeld HR.out.lt
  obtain ⟨r0, r1, r2, r3, r4, r5, r6⟩ := seven_cells hrx
  have fz := fun q => hrx.frozen q
  go_wp2_with fail
  obtain ⟨u7, hu7, hb7, hw7, -⟩ := store7 hrx (.int .i64 1) (.int .i64 (1 + (j : Int))) (.int .i64 (1 + (j : Int) + 1)) (.int .i64 (1 + (j : Int) + 1 + 1)) (.int .i64 (1 + (j : Int) + 1 + 1 + 1)) (.int .i64 (1 + (j : Int) + 1 + 1 + 1 + (i : Int) / 2)) (.int .i64 (1 + (j : Int) + 1 + 1 + 1 + (i : Int) / 2 + (g : Int) * (pp : Int)))
  rw [hu7]
  obtain ⟨c0, c1, c2, c3, c4, c5, c6⟩ := seven_cells hb7
  refine bodyPost_ret (v := .tuple #[.agg #[.int .i64 1, .int .i64 (1 + (j : Int)), .int .i64 (1 + (j : Int) + 1), .int .i64 (1 + (j : Int) + 1 + 1), .int .i64 (1 + (j : Int) + 1 + 1 + 1), .int .i64 (1 + (j : Int) + 1 + 1 + 1 + (i : Int) / 2), .int .i64 (1 + (j : Int) + 1 + 1 + 1 + (i : Int) / 2 + (g : Int) * (pp : Int))], .int .i64 0]) (by simp [results, Tryz.results93, go_sem, c0, c1, c2, c3, c4, c5, c6]) rfl ⟨rfl, ?_⟩
  exact HB.out.trans ((HBW.out.mono (by have := HSZ.out; omega)).trans (HBE.out.trans (hw7 _ (by omega))))
end Go.Proofs.YtcjkbmmjpkghlaaGreat.Vol

/-
  A volume is laid on a disk.
-/
namespace Go.Proofs.YtcjkbmmjpkghlaaGreat.Vol
open Go.RowKit Keep Meta

/-- The first sector. -/
def supX (j i g pp : Nat) : Sx := ⟨Super.superL j i g pp, 0, Super.length_super j i g pp, by decide⟩
/-- All that is written. -/
def fmtS (j i g pp : Nat) : List Sx := supX j i g pp :: List.replicate (allN j i g pp - 1) zx
def fmtL (j i g pp : Nat) : List (Nat × Sx) := placed 0 (fmtS j i g pp)
theorem allN_pos (j i g pp : Nat) : 1 ≤ allN j i g pp := by unfold allN blk0; omega
theorem length_fmtS (j i g pp : Nat) : (fmtS j i g pp).length = allN j i g pp := by
  have := allN_pos j i g pp
  simp [fmtS]; omega
theorem length_fmtL (j i g pp : Nat) : (fmtL j i g pp).length = allN j i g pp := by rw [fmtL, length_placed, length_fmtS]
/-- A sector's bytes. -/
def fmtB (j i g pp a : Nat) : List UInt8 := if a = 0 then Super.superL j i g pp else List.replicate 64 0
theorem fmtB_len (j i g pp a : Nat) : (fmtB j i g pp a).length = 64 := by
  unfold fmtB
  split
  · exact Super.length_super j i g pp
  · simp
theorem fmt_at {j i g pp a : Nat} (h : a < allN j i g pp) : ∃ c : Sx, (fmtL j i g pp)[a]? = some (a, c) ∧ c.b = fmtB j i g pp a ∧ c.t = 0 := by
  unfold fmtL fmtB
  rw [placed_get, Nat.zero_add]
  cases a with
  | zero => exact ⟨supX j i g pp, rfl, rfl, rfl⟩
  | succ a =>
    refine ⟨zx, ?_, by rw [if_neg (by omega)]; rfl, rfl⟩
    have : (fmtS j i g pp)[a + 1]? = some zx := by
      unfold fmtS
      rw [List.getElem?_cons_succ, List.getElem?_replicate, if_pos (by omega)]
    rw [this]; rfl
theorem on_off {k : Dk Sx} (hd : k.dead = false) (hc : k.cut = false) : k.off = false := by unfold Dk.off; rw [hd, hc]; rfl
theorem on_wrote {k : Dk Sx} (hd : k.dead = false) (hc : k.cut = false) (s : Nat) (c : Sx) : (k.wrote s c).dead = false ∧ (k.wrote s c).cut = false := by
  unfold Dk.wrote Dk.op
  rw [on_off hd hc]
  exact ⟨hd, hc⟩
set_option maxRecDepth 100000 in
set_option maxHeartbeats 6400000 in
theorem format_ok {j i g pp : Nat} (h : VG j i g pp) {B : Nat} {w : World} {S : Nat → Prop} {b : Nat} {k : Dk Sx} (hD : DO B w S b k) (hB : B ≤ w.heap.size) (hlen : allN j i g pp ≤ k.safe.length) (hd : k.dead = false) (hc : k.cut = false) (hu : k.un.length ≤ 100000) :
    Calls Tryz.prog 41 #[.pointer (some ⟨b, 0, none⟩), .agg #[.int .i64 (j : Int), .int .i64 (i : Int), .int .i64 (g : Int), .int .i64 (pp : Int)]] w fun e w' => e = .returned (.int .i64 0) ∧ (∃ S', DO B w' S' b (k.writes (fmtL j i g pp)).2) ∧ Keep.Good w w' ∧ Below B w w' := by
  have hall := allN_eq j i g pp
  have hpos := allN_pos j i g pp
  have hmax := h.all
  have HVG := Lib.hid h
  have HPLN : Hid (∀ u : World, (∃ S, DO B u S b k) → Calls Tryz.prog 93 #[.pointer (some ⟨b, 0, none⟩), .agg #[.int .i64 (j : Int), .int .i64 (i : Int), .int .i64 (g : Int), .int .i64 (pp : Int)]] u fun e w' => e = .returned (.tuple #[.agg #[.int .i64 1, .int .i64 (1 + (j : Int)), .int .i64 (1 + (j : Int) + 1), .int .i64 (1 + (j : Int) + 1 + 1), .int .i64 (1 + (j : Int) + 1 + 1 + 1), .int .i64 (1 + (j : Int) + 1 + 1 + 1 + (i : Int) / 2), .int .i64 (1 + (j : Int) + 1 + 1 + 1 + (i : Int) / 2 + (g : Int) * (pp : Int))], .int .i64 0]) ∧ Below u.heap.size u w') := Lib.hid (fun u hu => by
    obtain ⟨S, hS⟩ := hu
    exact plan_ok h hS.disk hlen)
  have HLAY : Hid (∀ u : World, Calls Tryz.prog 94 #[.agg #[.int .i64 (j : Int), .int .i64 (i : Int), .int .i64 (g : Int), .int .i64 (pp : Int)]] u fun e w' => ∃ v, e = .returned (.tuple #[v, .int .i64 0]) ∧ Made u (Super.superL j i g pp) v w') := Lib.hid (fun u => Super.slay_yes h.v u)
  obtain ⟨N, hN⟩ : ∃ N, allN j i g pp = N := ⟨_, rfl⟩
  have HL : Hid (∀ a, a < N → ∃ c : Sx, (fmtL j i g pp)[a]? = some (a, c) ∧ c.b = fmtB j i g pp a ∧ c.t = 0) := Lib.hid (fun a ha => fmt_at (by rw [hN]; exact ha))
  have HLL : Hid ((fmtL j i g pp).length = N) := Lib.hid (by rw [length_fmtL, hN])
  rw [hN] at hall hpos hmax hlen
  have HN := Lib.hid hall
  have HLEN := Lib.hid hlen
  have HD := Lib.hid hD
  have HB0 := Lib.hid hB
  have HCUT := Lib.hid hc
  have HDD := Lib.hid hd
  have HUN := Lib.hid hu
  have HBB := Lib.hid (Below.refl B w)
  have HGD := Lib.hid (Good.refl w)
  clear h hD hB hlen hd hc hu hN hall
  generalize fmtL j i g pp = L at *
  go_enter Tryz.func41, Tryz.ntmps41
  go_upto_region 1 with fail
  have hal := al_below w (.cells #[.int .i64 (j : Int), .int .i64 (i : Int), .int .i64 (g : Int), .int .i64 (pp : Int)] 29)
  replace HD := Lib.hid (HD.out.below hal)
  replace HBB := Lib.hid (HBB.out.trans (hal.mono (Nat.le_trans HB0.out HBB.out.size)))
  replace HGD := Lib.hid (HGD.out.trans (Good.of_below hal))
  have HG := Lib.hid (Bk.new w 29 [.int .i64 (j : Int), .int .i64 (i : Int), .int .i64 (g : Int), .int .i64 (pp : Int)])
  clear hal
  generalize w.alloc (.cells #[.int .i64 (j : Int), .int .i64 (i : Int), .int .i64 (g : Int), .int .i64 (pp : Int)] 29) = U1 at *
  obtain ⟨g0, g1, g2, g3⟩ := four_cells HG.out
  go_upto_region 3 with fail
  go_upto_region 4 with (go_at_call 93; (with_reducible refine (HPLN.out _ ⟨_, HD.out⟩).mono ?_); rintro e w1 ⟨he, hb⟩; obtain rfl := he; replace HD := Lib.hid (HD.out.below hb); replace HG := Lib.hid (HG.out.below hb HG.out.lt); replace HBB := Lib.hid (HBB.out.trans (hb.mono (Nat.le_trans HB0.out HBB.out.size))); replace HGD := Lib.hid (HGD.out.trans (Good.of_below hb)); clear g0 g1 g2 g3; clear hb; obtain ⟨g0, g1, g2, g3⟩ := four_cells HG.out)
  have hal := al_below w1 (.cells #[.int .i64 1, .int .i64 (1 + (j : Int)), .int .i64 (1 + (j : Int) + 1), .int .i64 (1 + (j : Int) + 1 + 1), .int .i64 (1 + (j : Int) + 1 + 1 + 1), .int .i64 (1 + (j : Int) + 1 + 1 + 1 + (i : Int) / 2), .int .i64 (1 + (j : Int) + 1 + 1 + 1 + (i : Int) / 2 + (g : Int) * (pp : Int))] 82)
  replace HD := Lib.hid (HD.out.below hal)
  replace HG := Lib.hid (HG.out.below hal HG.out.lt)
  replace HBB := Lib.hid (HBB.out.trans (hal.mono (Nat.le_trans HB0.out HBB.out.size)))
  replace HGD := Lib.hid (HGD.out.trans (Good.of_below hal))
  have HP := Lib.hid (Bk.new w1 82 [.int .i64 1, .int .i64 (1 + (j : Int)), .int .i64 (1 + (j : Int) + 1), .int .i64 (1 + (j : Int) + 1 + 1), .int .i64 (1 + (j : Int) + 1 + 1 + 1), .int .i64 (1 + (j : Int) + 1 + 1 + 1 + (i : Int) / 2), .int .i64 (1 + (j : Int) + 1 + 1 + 1 + (i : Int) / 2 + (g : Int) * (pp : Int))])
  clear g0 g1 g2 g3
  clear hal
  generalize hzU2 : w1.heap.size = zU2 at *
  clear hzU2
  generalize w1.alloc (.cells #[.int .i64 1, .int .i64 (1 + (j : Int)), .int .i64 (1 + (j : Int) + 1), .int .i64 (1 + (j : Int) + 1 + 1), .int .i64 (1 + (j : Int) + 1 + 1 + 1), .int .i64 (1 + (j : Int) + 1 + 1 + 1 + (i : Int) / 2), .int .i64 (1 + (j : Int) + 1 + 1 + 1 + (i : Int) / 2 + (g : Int) * (pp : Int))] 82) = U2 at *
  obtain ⟨g0, g1, g2, g3⟩ := four_cells HG.out
  obtain ⟨l0, l1, l2, l3, l4, l5, l6⟩ := seven_cells HP.out
  go_upto_region 6 with fail
  go_upto_region 7 with (go_at_call 94; have HBBx := HBB; (with_reducible refine (HLAY.out _).mono ?_); rintro e w2 ⟨v, he, hmd, hb⟩; obtain rfl := he; replace HD := Lib.hid (HD.out.below hb); replace HG := Lib.hid (HG.out.below hb HG.out.lt); replace HP := Lib.hid (HP.out.below hb HP.out.lt); replace HBB := Lib.hid (HBB.out.trans (hb.mono (Nat.le_trans HB0.out HBB.out.size))); replace HGD := Lib.hid (HGD.out.trans (Good.of_below hb)); have HMD := Lib.hid hmd; have HZB := Lib.hid HBBx.out.size; clear hmd HBBx; clear g0 g1 g2 g3 l0 l1 l2 l3 l4 l5 l6; clear hb; obtain ⟨g0, g1, g2, g3⟩ := four_cells HG.out; obtain ⟨l0, l1, l2, l3, l4, l5, l6⟩ := seven_cells HP.out)
  have hmk : ∀ u : World, (Instr.makeSlice 37 (.int .i64 64) (.int .i64 64)).run Tryz.prog u = .ok (.slice (some ⟨u.heap.size, 0, none⟩) 64 64) (u.alloc (.cells (bytesV (List.replicate 64 0)).toArray 5)) := fun u => make_bytes 64 (by decide) u
  have HMK := Lib.hid hmk
  clear hmk
  rw [← HN.out] at l6
  have HMD0 : Hid (w2.ownsRow B 5 1 v 64 (bytesV (fmtB j i g pp 0))) := Lib.hid (by
    have hm := own_mono HMD.out (Nat.le_trans HB0.out HZB.out)
    rw [Super.length_super] at hm
    exact hm)
  clear HMD HPLN HLAY
  go_wp2_with fail
  clear g0 g1 g2 g3 l0 l1 l2 l3 l4 l5 l6
  go_loopw [7, 9, 10, 29] (fun bv _ _ kc wr => ∃ (a : Nat) (kj : Dk Sx) (S' : Nat → Prop), kc = .int .i64 (a : Int) ∧ a ≤ N ∧ Hid (DO B wr S' b kj) ∧ Hid (k.writes L = kj.writes (L.drop a)) ∧ Hid (kj.dead = false ∧ kj.cut = false) ∧ Hid (kj.un.length = k.un.length + a ∧ kj.safe.length = k.safe.length) ∧ Hid (wr.ownsRow B 5 1 bv 64 (bytesV (fmtB j i g pp a))) ∧ Hid (Keep.Good w wr) ∧ Hid (Below B w wr)) (fun _ _ _ kc _ => N - (intOf kc).toNat)
  case atStart => exact ⟨0, k, S, rfl, Nat.zero_le _, HD, Lib.hid rfl, Lib.hid ⟨HDD.out, HCUT.out⟩, Lib.hid ⟨rfl, rfl⟩, HMD0, HGD, HBB⟩
  case round =>
    clear HD HGD HBB HMD0
    obtain ⟨a, kj, S', rfl, ha, HD, HWR, HON, HLN, HMD, HGD, HBB⟩ := hrel
    by_cases hlt : a < N
    · obtain ⟨c, hc1, hc2, hc3⟩ := HL.out a hlt
      obtain ⟨gb, cb, hv, hcb⟩ := own_pos HMD.out (by omega)
      subst hv
      have hrow := HMD.out
      have hra : wr.rangeAt gb 0 (bytesV c.b) := fun q u hu => by
        rw [Nat.zero_add, hrow.cellAt q (by have := (List.getElem?_eq_some_iff.1 hu).1; rw [length_bytesV, c.hb] at this; omega), ← hc2]
        exact hu
      have hgt : ∃ cur, wr.heap[gb]? = some (.cells cur 5 (0, 0)) := by
        rcases hrow.2 with ⟨hv, _⟩ | ⟨g', cap, cur, hv, _, hg, _⟩
        · cases hv
        · injection hv with hv _ _
          injection hv with hv
          injection hv with hv
          subst hv
          exact ⟨cur, hg⟩
      obtain ⟨cur, hcur⟩ := hgt
      have hnS : ¬ S' gb := fun hs => by
        obtain ⟨c', e', h1, h2⟩ := typed HD.out.disk hs
        rw [hcur] at h1
        cases h1
        exact absurd h2 (by decide)
      have hwc := write_any sx_enc wr S' b kj HD.out.disk a (by rw [HLN.out.2]; have := HLEN.out; omega) gb 0 cb (bytesV c.b) 0 c (by show bytesV c.b ++ [.int .u16 (c.t : Int)] = _; rw [hc3]; rfl) (by rw [length_bytesV, c.hb]) hra hnS (lt_heap hcur) (by rw [HLN.out.1]; have := HUN.out; omega) (on_off HON.out.1 HON.out.2)
      have HWC := Lib.hid hwc
      have hdrop : L.drop a = (a, c) :: L.drop (a + 1) := by
        obtain ⟨h1, h2⟩ := List.getElem?_eq_some_iff.1 hc1
        rw [← h2, List.getElem_cons_drop]
      have HWR1 : Hid (k.writes L = (kj.wrote a c).writes (L.drop (a + 1))) := Lib.hid (by
        rw [HWR.out, hdrop]
        show (if kj.off then _ else _) = _
        rw [on_off HON.out.1 HON.out.2]
        rfl)
      have HON1 := Lib.hid (on_wrote HON.out.1 HON.out.2 a c)
      have HLN1 : Hid ((kj.wrote a c).un.length = k.un.length + (a + 1) ∧ (kj.wrote a c).safe.length = k.safe.length) := Lib.hid (by
        rw [Dk.wrote_un, Dk.wrote_safe, List.length_append, HLN.out.1]
        exact ⟨by simp only [List.length_singleton]; omega, HLN.out.2⟩)
      have HFB : Hid (fmtB j i g pp (a + 1) = List.replicate 64 0) := Lib.hid (if_neg (by omega))
      have hmk := HMK.out
      have hlti : (a : Int) < (N : Int) := by omega
      have hi0 : (0 : Int) ≤ (a : Int) := by omega
      have hiw : IntKind.i64.wrap ((a : Int) + 1) = ((a + 1 : Nat) : Int) := by rw [IntKind.wrap_i64]; omega
      clear hwc hdrop hra hcur hnS hrow hc1 hc2 hc3 hcb HWR HMD
      go_wp2_with (go_at_call 95; (with_reducible refine HWC.out.mono ?_); rintro e w' ⟨he, ht⟩; obtain rfl := he; obtain ⟨⟨S2, hD2⟩, hg2, hb2⟩ := HD.out.turn ht (Nat.le_trans HB0.out HBB.out.size); have HD2 := Lib.hid hD2; have HGD2 := Lib.hid (HGD.out.trans hg2); have HBB2 := Lib.hid (HBB.out.trans hb2); clear ht hD2 hg2 hb2)
      have hal := al_below w' (.cells (bytesV (List.replicate 64 0)).toArray 5)
      have HD3 := Lib.hid (HD2.out.below hal)
      have HGD3 := Lib.hid (HGD2.out.trans (Good.of_below hal))
      have HBB3 := Lib.hid (HBB2.out.trans (hal.mono (Nat.le_trans HB0.out HBB2.out.size)))
      have HMD3 : Hid ((w'.alloc (.cells (bytesV (List.replicate 64 0)).toArray 5)).ownsRow B 5 1 (.slice (some ⟨w'.heap.size, 0, none⟩) 64 64) 64 (bytesV (fmtB j i g pp (a + 1)))) := Lib.hid (by
        rw [HFB.out]
        exact (Bk.new w' 5 (bytesV (List.replicate 64 0))).own 64 (by rw [length_bytesV]; simp) (Nat.le_trans HB0.out HBB2.out.size) (by decide))
      clear hal
      go_roundw
      case rel => exact ⟨a + 1, _, _, by first | rfl | (congr 1), hlt, HD3, HWR1, HON1, HLN1, HMD3, HGD3, HBB3⟩
      case measure => simp [intOf]; omega
    · obtain rfl : N = a := by omega
      have hdr : L.drop N = [] := List.drop_of_length_le (by rw [HLL.out]; exact Nat.le_refl _)
      have hwf : (k.writes L).2 = kj.flush := by rw [HWR.out, hdr]; rfl
      have hfl := flush_any sx_enc wr S' b kj HD.out.disk (by rw [HLN.out.1]; have := HUN.out; omega)
      rw [on_off HON.out.1 HON.out.2] at hfl
      have HFL := Lib.hid hfl
      have HWF := Lib.hid hwf
      clear hdr hwf hfl
      go_wp2_with (go_at_call 96; (with_reducible refine HFL.out.mono ?_); rintro e w' ⟨he, ht⟩; obtain rfl := he; obtain ⟨hD2, hg2, hb2⟩ := HD.out.turn ht (Nat.le_trans HB0.out HBB.out.size); have HD2 := Lib.hid hD2; have HGD2 := Lib.hid (HGD.out.trans hg2); have HBB2 := Lib.hid (HBB.out.trans hb2); clear ht hD2 hg2 hb2)
      go_ret
      exact ⟨rfl, by rw [HWF.out]; exact HD2.out, HGD2.out, HBB2.out⟩
end Go.Proofs.YtcjkbmmjpkghlaaGreat.Vol

/-
  Sectors that were read, each in a block of its own.
-/
namespace Go.Proofs.YtcjkbmmjpkghlaaGreat.Vol
open Go.RowKit Keep Meta

/-- Sectors that were read, each in a block of its own. -/
structure SRow (u : World) (base : Nat) (v : Value) (L : List Sc) (l : List (List UInt8)) : Prop where
  len : L.length = l.length
  row : u.ownsRow base 37 1 v l.length (secsV L l)
  each : ∀ (i : Nat) (s : Sc) (b : List UInt8), L[i]? = some s → l[i]? = some b → ∃ g, s.A = some ⟨g, 0, none⟩ ∧ b.length ≤ s.c ∧ s.c ≤ maxLen ∧ Bk u g 131 (bytesV b)
section
variable {u u' : World} {base : Nat} {v : Value} {L : List Sc} {l : List (List UInt8)}
theorem SRow.nil (u : World) (base : Nat) : SRow u base (.slice none 0 0) [] [] := ⟨rfl, World.ownsRow_nil _ _ _ _, fun i s b h => by simp at h⟩
theorem SRow.below (h : SRow u base v L l) (hb : Below u.heap.size u u') : SRow u' base v L l :=
  ⟨h.len, own_below h.row hb, fun i s b h1 h2 => by
    obtain ⟨g, e1, e2, e3, e4⟩ := h.each i s b h1 h2
    exact ⟨g, e1, e2, e3, e4.below hb e4.lt⟩⟩
theorem SRow.at_ {A : Option Addr} {n c : Nat} (h : SRow u base (.slice A n c) L l) : n = l.length ∧ SecsAt u u.heap.size A L l := by
  obtain ⟨_, A', c', hv, hc, hm, hr⟩ := own_rd h.row
  injection hv with h1 h2 h3
  subst h1 h2 h3
  refine ⟨rfl, h.len, hr, fun i s b h1 h2 => ?_⟩
  obtain ⟨g, e1, e2, e3, e4⟩ := h.each i s b h1 h2
  rw [e1]
  have := e4.rd b.length 0
  rw [List.drop_zero, List.take_of_length_le (by rw [length_bytesV]; exact Nat.le_refl _)] at this
  exact ⟨this, e2, e3⟩
theorem SRow.slice (h : SRow u base v L l) : ∃ A c, v = .slice A l.length c ∧ l.length ≤ c := by
  obtain ⟨_, A, c, hv, hc, _⟩ := own_rd h.row
  exact ⟨A, c, hv, hc⟩
theorem SRow.push (h : SRow u base v L l) {v' : Value} {n : Nat} (S : Sc) (b : List UInt8) (hn : l.length = n) (hown : u'.ownsRow base 37 1 v' (n + 1) (secsV L l ++ [.slice S.A b.length S.c])) (hg : u.grownBy u' v.ownBlock) {g : Nat} (hS : S.A = some ⟨g, 0, none⟩) (hc : b.length ≤ S.c) (hm : S.c ≤ maxLen) (hb : Bk u g 131 (bytesV b)) : SRow u' base v' (L ++ [S]) (l ++ [b]) := by
  have hk : ∀ (g : Nat) (b : List UInt8), Bk u g 131 (bytesV b) → Bk u' g 131 (bytesV b) := fun g b hb => hb.grown hg (bk_ne hb h.row (by decide))
  refine ⟨by rw [List.length_append, List.length_append, h.len]; rfl, by rw [List.length_append, List.length_singleton, hn, secsV_snoc h.len]; exact hown, fun i s b' h1 h2 => ?_⟩
  rcases Nat.lt_or_ge i L.length with hi | hi
  · rw [List.getElem?_append_left hi] at h1
    rw [List.getElem?_append_left (by rw [← h.len]; exact hi)] at h2
    obtain ⟨g', e1, e2, e3, e4⟩ := h.each i s b' h1 h2
    exact ⟨g', e1, e2, e3, hk _ _ e4⟩
  · rw [List.getElem?_append_right hi] at h1
    rw [List.getElem?_append_right (by rw [← h.len]; exact hi), ← h.len] at h2
    have hz : i - L.length = 0 := by
      have := (List.getElem?_eq_some_iff.1 h1).1
      simp at this
      omega
    rw [hz] at h1 h2
    simp only [List.getElem?_cons_zero, Option.some.injEq] at h1 h2
    subst h1 h2
    exact ⟨g, hS, hc, hm, hk _ _ hb⟩
end

section
variable {u u' : World} {base : Nat} {v : Value} {L : List Sc} {l : List (List UInt8)}
theorem SRow.lower {base' : Nat} (h : SRow u base v L l) (hb : base' ≤ base) : SRow u base' v L l := ⟨h.len, own_mono h.row hb, h.each⟩
theorem SRow.good (h : SRow u base v L l) (hg : Keep.Good u u') : SRow u' base v L l :=
  ⟨h.len, hg.own h.row, fun i s b h1 h2 => by
    obtain ⟨g, e1, e2, e3, e4⟩ := h.each i s b h1 h2
    exact ⟨g, e1, e2, e3, hg.bk e4⟩⟩
end
/-- A row of them that is being filled. -/
def partS (n : Nat) (L : List Sc) (l : List (List UInt8)) : List Value := secsV L l ++ List.replicate (n - l.length) (.slice none 0 0)
theorem partS_set {n : Nat} {L : List Sc} {l : List (List UInt8)} (hL : L.length = l.length) (hn : l.length < n) (S : Sc) (b : List UInt8) : (partS n L l).set l.length (.slice S.A b.length S.c) = partS n (L ++ [S]) (l ++ [b]) := by
  unfold partS
  rw [secsV_snoc hL, List.length_append, List.length_singleton, show n - l.length = (n - (l.length + 1)) + 1 by omega, List.replicate_succ, List.set_append_right _ _ (by rw [length_secsV hL]; exact Nat.le_refl _), length_secsV hL, Nat.sub_self, List.set_cons_zero, List.append_assoc]
  rfl
theorem length_partS {n : Nat} {L : List Sc} {l : List (List UInt8)} (hL : L.length = l.length) (hn : l.length ≤ n) : (partS n L l).length = n := by
  unfold partS
  rw [List.length_append, length_secsV hL, List.length_replicate]
  omega
end Go.Proofs.YtcjkbmmjpkghlaaGreat.Vol

/-
  The volume that is stored on a disk is found, and its sectors are read.
-/
namespace Go.Proofs.YtcjkbmmjpkghlaaGreat.Vol
open Go.RowKit Keep Meta

theorem super_parts (J I G P : Nat) : ∃ R, Super.superL J I G P = Super.markL ++ (digs J 2 ++ (digs I 2 ++ (digs G 2 ++ (digs P 2 ++ R)))) := by
  refine ⟨List.replicate (60 - (Super.headL J I G P).length) 0 ++ digs (sumOf (padl (Super.headL J I G P) 60)) 4, ?_⟩
  simp [Super.superL, sealed, padl, Super.headL, layl]
theorem super_nums {J I G P : Nat} (hJ : J < 65536) (hI : I < 65536) (hG : G < 65536) (hP : P < 65536) :
    Super.numL (Super.superL J I G P) 4 = J ∧ Super.numL (Super.superL J I G P) 6 = I ∧ Super.numL (Super.superL J I G P) 8 = G ∧ Super.numL (Super.superL J I G P) 10 = P := by
  obtain ⟨R, hR⟩ := super_parts J I G P
  have e : ∀ n : Nat, n < 65536 → le (digs n 2) = n := fun n hn => le_digs_of_lt n 2 (by simpa using hn)
  have hJ' := e J hJ
  have hI' := e I hI
  have hG' := e G hG
  have hP' := e P hP
  unfold Super.numL
  rw [hR]
  simp only [Super.markL, digs] at *
  exact ⟨hJ', hI', hG', hP'⟩
theorem take_super {j i g pp : Nat} (h : Super.Valid (j : Int) i g pp) (A : Option Addr) (c : Nat) (w : World) (hr : Rd w w.heap.size A (bytesV (Super.superL j i g pp))) (hc : 64 ≤ c) :
    Calls Tryz.prog 117 #[.slice A 64 c] w fun e w' => e = .returned (.tuple #[.agg #[.int .i64 (j : Int), .int .i64 (i : Int), .int .i64 (g : Int), .int .i64 (pp : Int)], .int .i64 0]) ∧ Below w.heap.size w w' := by
  have p2 := h.p2
  obtain ⟨j1, j2, i1, i2, i3, g1, g2, p1, gp⟩ := id h
  obtain ⟨e0, e1, e2, e3⟩ := super_nums (J := j) (I := i) (G := g) (P := pp) (by omega) (by omega) (by omega) (by omega)
  have := Super.stake_yes (Super.superL j i g pp) A c w (Super.length_super j i g pp) hr hc (by rw [e0, e1, e2, e3]; exact h) (by rw [e0, e1, e2, e3])
  rw [e0, e1, e2, e3] at this
  exact this
set_option maxRecDepth 100000 in
set_option maxHeartbeats 6400000 in
theorem find_ok {j i g pp : Nat} (h : VG j i g pp) {B : Nat} {w : World} {S : Nat → Prop} {b : Nat} {k : Dk Sx} (hD : DO B w S b k) (hlen : allN j i g pp ≤ k.safe.length) {c : Sx} (hc : k.now[0]? = some c) (hcb : c.b = Super.superL j i g pp) (hd : k.dead = false) :
    Calls Tryz.prog 60 #[.pointer (some ⟨b, 0, none⟩)] w fun e w' => e = .returned (.tuple #[.agg #[.int .i64 (j : Int), .int .i64 (i : Int), .int .i64 (g : Int), .int .i64 (pp : Int)], .agg #[.int .i64 1, .int .i64 (1 + (j : Int)), .int .i64 (1 + (j : Int) + 1), .int .i64 (1 + (j : Int) + 1 + 1), .int .i64 (1 + (j : Int) + 1 + 1 + 1), .int .i64 (1 + (j : Int) + 1 + 1 + 1 + (i : Int) / 2), .int .i64 (1 + (j : Int) + 1 + 1 + 1 + (i : Int) / 2 + (g : Int) * (pp : Int))], .int .i64 0]) ∧ Below w.heap.size w w' := by
  have hpos := allN_pos j i g pp
  have hne : ((k.safe.length : Int) == 0) = false := by rw [beq_eq_false_iff_ne]; omega
  have HRD : Hid (∀ u : World, DO B u S b k → Calls Tryz.prog 44 #[.pointer (some ⟨b, 0, none⟩), .int .i64 0] u fun e w' => e = .returned (.tuple #[.slice (some ⟨u.heap.size, 0, none⟩) 64 64, .int .i64 0]) ∧ Bk w' u.heap.size 131 (bytesV (Super.superL j i g pp)) ∧ Below u.heap.size u w') := Lib.hid (fun u hu => by
    have := dread_any hu (s := 0) hc hd
    rw [hcb] at this
    exact this)
  have HTK : Hid (∀ (u : World) (q : Nat), Bk u q 131 (bytesV (Super.superL j i g pp)) → Calls Tryz.prog 117 #[.slice (some ⟨q, 0, none⟩) 64 64] u fun e w' => e = .returned (.tuple #[.agg #[.int .i64 (j : Int), .int .i64 (i : Int), .int .i64 (g : Int), .int .i64 (pp : Int)], .int .i64 0]) ∧ Below u.heap.size u w') := Lib.hid (fun u q hq => by
    have hrd := hq.rd 64 0
    rw [List.drop_zero, List.take_of_length_le (by rw [length_bytesV, Super.length_super]; exact Nat.le_refl _)] at hrd
    exact take_super h.v _ _ u hrd (Nat.le_refl _))
  have HPLN : Hid (∀ u : World, DO B u S b k → Calls Tryz.prog 93 #[.pointer (some ⟨b, 0, none⟩), .agg #[.int .i64 (j : Int), .int .i64 (i : Int), .int .i64 (g : Int), .int .i64 (pp : Int)]] u fun e w' => e = .returned (.tuple #[.agg #[.int .i64 1, .int .i64 (1 + (j : Int)), .int .i64 (1 + (j : Int) + 1), .int .i64 (1 + (j : Int) + 1 + 1), .int .i64 (1 + (j : Int) + 1 + 1 + 1), .int .i64 (1 + (j : Int) + 1 + 1 + 1 + (i : Int) / 2), .int .i64 (1 + (j : Int) + 1 + 1 + 1 + (i : Int) / 2 + (g : Int) * (pp : Int))], .int .i64 0]) ∧ Below u.heap.size u w') := Lib.hid (fun u hu => plan_ok h hu.disk hlen)
  obtain ⟨W, hW⟩ : ∃ W, W = (w.alloc (.cells #[.int .i64 0, .int .i64 0, .int .i64 0, .int .i64 0] 29)).alloc (.cells #[.int .i64 0, .int .i64 0, .int .i64 0, .int .i64 0, .int .i64 0, .int .i64 0, .int .i64 0] 82) := ⟨_, rfl⟩
  have hbW : Below w.heap.size w W := by rw [hW]; exact (Below.refl _ _).alloc (Nat.le_refl _) _ |>.alloc (by simp) _
  have hG : Bk W w.heap.size 29 [.int .i64 0, .int .i64 0, .int .i64 0, .int .i64 0] := by rw [hW]; exact (Bk.new w 29 [.int .i64 0, .int .i64 0, .int .i64 0, .int .i64 0]).below (al_below _ _) (by simp)
  have hR : Bk W (w.heap.size + 1) 82 [.int .i64 0, .int .i64 0, .int .i64 0, .int .i64 0, .int .i64 0, .int .i64 0, .int .i64 0] := by
    rw [hW]
    have := Bk.new (w.alloc (.cells #[.int .i64 0, .int .i64 0, .int .i64 0, .int .i64 0] 29)) 82 [.int .i64 0, .int .i64 0, .int .i64 0, .int .i64 0, .int .i64 0, .int .i64 0, .int .i64 0]
    simpa using this
  have HG := Lib.hid hG
  have HR := Lib.hid hR
  have HB := Lib.hid hbW
  have HD := Lib.hid (hD.below hbW)
  have HBW := Lib.hid (Below.refl W.heap.size W)
  have HSZ : Hid (W.heap.size = w.heap.size + 2) := Lib.hid (by rw [hW]; simp)
  have HLN := Lib.hid (fun (u : World) (hu : DO B u S b k) => len_any' hu.disk)
  clear hpos h hD hlen hc hcb hd hbW hG hR
  go_enter Tryz.func60, Tryz.ntmps60
  go_upto_region 1 with fail
  rw [← hW]
  clear hW
  go_upto_region 5 with (go_at_call 43; (with_reducible refine (HLN.out _ HD.out).mono ?_); rintro e w1 ⟨he, hb⟩; obtain rfl := he; subst hb)
  go_upto_region 8 with (go_at_call 44; (with_reducible refine (HRD.out _ HD.out).mono ?_); rintro e w1 ⟨he, hbk, hb⟩; obtain rfl := he; replace HBW := Lib.hid (HBW.out.trans (hb.mono HBW.out.size)); replace HG := Lib.hid (HG.out.below hb HG.out.lt); replace HR := Lib.hid (HR.out.below hb HR.out.lt); replace HD := Lib.hid (HD.out.below hb); have HBK := Lib.hid hbk; clear hbk; clear hb)
  go_upto_region 9 with (go_at_call 117; (with_reducible refine (HTK.out _ _ HBK.out).mono ?_); rintro e w2 ⟨he, hb⟩; obtain rfl := he; replace HBW := Lib.hid (HBW.out.trans (hb.mono HBW.out.size)); replace HG := Lib.hid (HG.out.below hb HG.out.lt); replace HR := Lib.hid (HR.out.below hb HR.out.lt); replace HD := Lib.hid (HD.out.below hb); replace HBK := Lib.hid (HBK.out.below hb HBK.out.lt); clear hb)
  have HZ7 := Lib.hid HBW.out.size
  have hal := al_below w2 (.cells #[.int .i64 (j : Int), .int .i64 (i : Int), .int .i64 (g : Int), .int .i64 (pp : Int)] 29)
  replace HBW := Lib.hid (HBW.out.trans (hal.mono HBW.out.size))
  replace HG := Lib.hid (HG.out.below hal HG.out.lt)
  replace HR := Lib.hid (HR.out.below hal HR.out.lt)
  replace HD := Lib.hid (HD.out.below hal)
  replace HBK := Lib.hid (HBK.out.below hal HBK.out.lt)
  have H7 := Lib.hid (Bk.new w2 29 [.int .i64 (j : Int), .int .i64 (i : Int), .int .i64 (g : Int), .int .i64 (pp : Int)])
  clear hal
  generalize hzU7 : w2.heap.size = zU7 at *
  clear hzU7
  generalize w2.alloc (.cells #[.int .i64 (j : Int), .int .i64 (i : Int), .int .i64 (g : Int), .int .i64 (pp : Int)] 29) = U7 at *
  obtain ⟨g0, g1, g2, g3⟩ := four_cells H7.out
  go_upto_region 10 with (go_at_call 93; (with_reducible refine (HPLN.out _ HD.out).mono ?_); rintro e w3 ⟨he, hb⟩; obtain rfl := he; replace HBW := Lib.hid (HBW.out.trans (hb.mono HBW.out.size)); replace HG := Lib.hid (HG.out.below hb HG.out.lt); replace HR := Lib.hid (HR.out.below hb HR.out.lt); replace HD := Lib.hid (HD.out.below hb); replace HBK := Lib.hid (HBK.out.below hb HBK.out.lt); replace H7 := Lib.hid (H7.out.below hb H7.out.lt); clear g0 g1 g2 g3; clear hb; obtain ⟨g0, g1, g2, g3⟩ := four_cells H7.out)
  have HZ9 := Lib.hid HBW.out.size
  have hal := al_below w3 (.cells #[.int .i64 1, .int .i64 (1 + (j : Int)), .int .i64 (1 + (j : Int) + 1), .int .i64 (1 + (j : Int) + 1 + 1), .int .i64 (1 + (j : Int) + 1 + 1 + 1), .int .i64 (1 + (j : Int) + 1 + 1 + 1 + (i : Int) / 2), .int .i64 (1 + (j : Int) + 1 + 1 + 1 + (i : Int) / 2 + (g : Int) * (pp : Int))] 82)
  replace HBW := Lib.hid (HBW.out.trans (hal.mono HBW.out.size))
  replace HG := Lib.hid (HG.out.below hal HG.out.lt)
  replace HR := Lib.hid (HR.out.below hal HR.out.lt)
  replace HD := Lib.hid (HD.out.below hal)
  replace HBK := Lib.hid (HBK.out.below hal HBK.out.lt)
  replace H7 := Lib.hid (H7.out.below hal H7.out.lt)
  have H9 := Lib.hid (Bk.new w3 82 [.int .i64 1, .int .i64 (1 + (j : Int)), .int .i64 (1 + (j : Int) + 1), .int .i64 (1 + (j : Int) + 1 + 1), .int .i64 (1 + (j : Int) + 1 + 1 + 1), .int .i64 (1 + (j : Int) + 1 + 1 + 1 + (i : Int) / 2), .int .i64 (1 + (j : Int) + 1 + 1 + 1 + (i : Int) / 2 + (g : Int) * (pp : Int))])
  clear g0 g1 g2 g3
  clear hal
  generalize hzU9 : w3.heap.size = zU9 at *
  clear hzU9
  generalize w3.alloc (.cells #[.int .i64 1, .int .i64 (1 + (j : Int)), .int .i64 (1 + (j : Int) + 1), .int .i64 (1 + (j : Int) + 1 + 1), .int .i64 (1 + (j : Int) + 1 + 1 + 1), .int .i64 (1 + (j : Int) + 1 + 1 + 1 + (i : Int) / 2), .int .i64 (1 + (j : Int) + 1 + 1 + 1 + (i : Int) / 2 + (g : Int) * (pp : Int))] 82) = U9 at *
  obtain ⟨g0, g1, g2, g3⟩ := four_cells H7.out
  obtain ⟨l0, l1, l2, l3, l4, l5, l6⟩ := seven_cells H9.out
  obtain ⟨a0, a1, a2, a3⟩ := four_cells HG.out
  obtain ⟨r0, r1, r2, r3, r4, r5, r6⟩ := seven_cells HR.out
  have fz := fun q => HG.out.frozen q
  have fz2 := fun q => HR.out.frozen q
  have lt1 := HG.out.lt
  have lt2 := HR.out.lt
  have lt3 := H7.out.lt
  have lt4 := H9.out.lt
  have n1 : zU9 ≠ w.heap.size := by have := HZ9.out; have := HSZ.out; omega
  have n2 : zU9 ≠ w.heap.size + 1 := by have := HZ9.out; have := HSZ.out; omega
  have n3 : zU7 ≠ w.heap.size := by have := HZ7.out; have := HSZ.out; omega
  have n4 : zU7 ≠ w.heap.size + 1 := by have := HZ7.out; have := HSZ.out; omega
  have n5 : w.heap.size + 1 ≠ w.heap.size := by omega
  have n6 : w.heap.size ≠ w.heap.size + 1 := by omega
  go_upto_region 12 with fail
  go_region
  obtain ⟨u4, hu4, hb4, hw4, hg4⟩ := store4 HG.out (.int .i64 (j : Int)) (.int .i64 (i : Int)) (.int .i64 (g : Int)) (.int .i64 (pp : Int))
  rw [hu4]
  have hr4 := HR.out.grown hg4 (by simp)
  obtain ⟨u7, hu7, hb7, hw7, hg7⟩ := store7 hr4 (.int .i64 1) (.int .i64 (1 + (j : Int))) (.int .i64 (1 + (j : Int) + 1)) (.int .i64 (1 + (j : Int) + 1 + 1)) (.int .i64 (1 + (j : Int) + 1 + 1 + 1)) (.int .i64 (1 + (j : Int) + 1 + 1 + 1 + (i : Int) / 2)) (.int .i64 (1 + (j : Int) + 1 + 1 + 1 + (i : Int) / 2 + (g : Int) * (pp : Int)))
  rw [hu7]
  have hg8 := bk_drew (hb4.grown hg7 (by simp))
  obtain ⟨c0, c1, c2, c3, c4, c5, c6⟩ := seven_cells (bk_drew hb7)
  obtain ⟨d0, d1, d2, d3⟩ := four_cells hg8
  clear g0 g1 g2 g3 l0 l1 l2 l3 l4 l5 l6 a0 a1 a2 a3 r0 r1 r2 r3 r4 r5 r6 fz fz2 n1 n2 n3 n4 n5 n6
  go_wp2
  refine bodyPost_ret (v := .tuple #[.agg #[.int .i64 (j : Int), .int .i64 (i : Int), .int .i64 (g : Int), .int .i64 (pp : Int)], .agg #[.int .i64 1, .int .i64 (1 + (j : Int)), .int .i64 (1 + (j : Int) + 1), .int .i64 (1 + (j : Int) + 1 + 1), .int .i64 (1 + (j : Int) + 1 + 1 + 1), .int .i64 (1 + (j : Int) + 1 + 1 + 1 + (i : Int) / 2), .int .i64 (1 + (j : Int) + 1 + 1 + 1 + (i : Int) / 2 + (g : Int) * (pp : Int))], .int .i64 0]) (by simp [results, Tryz.results60, go_sem, c0, c1, c2, c3, c4, c5, c6, d0, d1, d2, d3]) rfl ⟨rfl, ?_⟩
  exact HB.out.trans ((HBW.out.mono (by have := HSZ.out; omega)).trans ((hw4 _ (Nat.le_refl _)).trans ((hw7 _ (by omega)).drew)))
end Go.Proofs.YtcjkbmmjpkghlaaGreat.Vol
