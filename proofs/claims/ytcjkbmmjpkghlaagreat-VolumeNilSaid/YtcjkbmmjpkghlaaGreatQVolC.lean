/-
  A disk that holds a volume is mounted.
-/
import Derived.Test.YtcjkbmmjpkghlaaGreatQVolB
import Derived.Test.YtcjkbmmjpkghlaaGreatQTopA
import Derived.Test.YtcjkbmmjpkghlaaGreatQMetaX12
import Derived.Carry
import Derived.Maps.RangeWalk
import Derived.Maps.OwnOps
import Derived.OpenShut
import Derived.Test.YtcjkbmmjpkghlaaGreatQBits
import Derived.Test.YtcjkbmmjpkghlaaGreatQInternA
namespace Go.Proofs.YtcjkbmmjpkghlaaGreat.Vol
open Go.RowKit Keep Meta

theorem five_cells {w : World} {g : Nat} {e : TypeId} {a0 a1 a2 a3 a4 : Value} (h : Bk w g e [a0, a1, a2, a3, a4]) : w.cell? ⟨g, 0, none⟩ = some a0 ∧ w.cell? ⟨g, 1, none⟩ = some a1 ∧ w.cell? ⟨g, 2, none⟩ = some a2 ∧ w.cell? ⟨g, 3, none⟩ = some a3 ∧ w.cell? ⟨g, 4, none⟩ = some a4 :=
  ⟨h.cell 0, h.cell 1, h.cell 2, h.cell 3, h.cell 4⟩
/-- A volume's cells. -/
def volC (j i g pp b bj bm : Nat) (x : Meta.Mem) (m : Meta.Met) (be : Value) (A : Option Addr) (c : Nat) (dead : Bool) : List Value :=
  [.slice x.rA m.rows.length x.rc, .slice x.oA m.own.length x.oc, .slice x.uA m.used.length x.uc, .slice x.iA m.ino.length x.ic, .map (some bm), be, .pointer (some ⟨b, 0, none⟩), .pointer (some ⟨bj, 0, none⟩),
   .int .i64 (j : Int), .int .i64 (i : Int), .int .i64 (g : Int), .int .i64 (pp : Int),
   .int .i64 1, .int .i64 (1 + (j : Int)), .int .i64 (1 + (j : Int) + 1), .int .i64 (1 + (j : Int) + 1 + 1), .int .i64 (1 + (j : Int) + 1 + 1 + 1), .int .i64 (1 + (j : Int) + 1 + 1 + 1 + (i : Int) / 2), .int .i64 (1 + (j : Int) + 1 + 1 + 1 + (i : Int) / 2 + (g : Int) * (pp : Int)),
   .slice A (3 + i / 2) c, .bool dead]
set_option maxRecDepth 100000 in
set_option maxHeartbeats 6400000 in
theorem mount_ok {j i g pp : Nat} (h : VG j i g pp) {B : Nat} {w : World} {S : Nat → Prop} {b : Nat} {k : Dk Sx} (hD : DO B w S b k) (hB : B ≤ w.heap.size) {T q : Nat} (hT : allN j i g pp ≤ T) (hT4 : T ≤ 4096) {l : List (Nat × Sx)} (hI : Jrn.Img 1 j T k.safe q l) (hu : k.un = []) (hd : k.dead = false) (hc : k.cut = false) (hq : q < 18446744073709551616)
    {m : Meta.Met} (ho : Okm m) (hr : Meta.Right ⟨j, i, g, pp⟩ m) (hcs : Cons pp m) (hs0 : ∃ c, k.now[0]? = some c ∧ c.b = Super.superL j i g pp) (hsm : ∀ (a : Nat) (y : List UInt8), (secs m)[a]? = some y → ∃ c, Jrn.vw 1 j (puts k.safe l) (1 + j + a) = some c ∧ c.b = y) :
    Calls Tryz.prog 20 #[.pointer (some ⟨b, 0, none⟩)] w fun e w' => ∃ (bv bj bm : Nat) (S' : Nat → Prop) (k' : Dk Sx) (x : Meta.Mem) (A : Option Addr) (c : Nat) (L : List Sc), e = .returned (.tuple #[.pointer (some ⟨bv, 0, none⟩), .int .i64 0]) ∧ Bk w' bv 102 (volC j i g pp b bj bm x m (.pointer none) A c false) ∧ w'.heap[bm]? = some (.map #[] 0) ∧ OwnM w' w.heap.size x m ∧ SRow w' w.heap.size (.slice A (3 + i / 2) c) L (secs m) ∧
      DJ B w' S' bj b 1 j q k' ∧ Jrn.Rest 1 j T k' q ∧ Jrn.vw 1 j k'.safe = Jrn.vw 1 j (puts k.safe l) ∧ k'.cut = false ∧ w.heap.size ≤ bv ∧ w.heap.size ≤ bm ∧ Keep.Good w w' ∧ Below B w w' := by
  have hlen := hI.len
  obtain ⟨c0, hc0, hcb⟩ := hs0
  have hj3 := h.v.j1
  have hr3 := h.room
  have hgp := h.v.gp
  have hall := allN_eq j i g pp
  have hP : Jrn.Plc 1 j T := ⟨by omega, by unfold allN blk0 at hT; omega, by omega⟩
  have hi2 : ((3 + i / 2 : Nat) : Int) = 3 + (i : Int) / 2 := by omega
  have hi60 : (i : Int) ≤ 64 := h.v.i2
  have HFI : Hid (∀ u : World, DO B u S b k → Calls Tryz.prog 60 #[.pointer (some ⟨b, 0, none⟩)] u fun e w' => e = .returned (.tuple #[.agg #[.int .i64 (j : Int), .int .i64 (i : Int), .int .i64 (g : Int), .int .i64 (pp : Int)], .agg #[.int .i64 1, .int .i64 (1 + (j : Int)), .int .i64 (1 + (j : Int) + 1), .int .i64 (1 + (j : Int) + 1 + 1), .int .i64 (1 + (j : Int) + 1 + 1 + 1), .int .i64 (1 + (j : Int) + 1 + 1 + 1 + (i : Int) / 2), .int .i64 (1 + (j : Int) + 1 + 1 + 1 + (i : Int) / 2 + (g : Int) * (pp : Int))], .int .i64 0]) ∧ Below u.heap.size u w') := Lib.hid (fun u hu' => find_ok h hu' (by rw [hlen]; exact hT) hc0 hcb hd)
  have HJO : Hid (∀ u : World, DO B u S b k → B ≤ u.heap.size → Calls Tryz.prog 61 #[.pointer (some ⟨b, 0, none⟩), .int .i64 1, .int .i64 (j : Int)] u fun e w' => ∃ (bj : Nat) (S' : Nat → Prop) (k' : Dk Sx), e = .returned (.tuple #[.pointer (some ⟨bj, 0, none⟩), .int .i64 (l.length : Int), .int .i64 0]) ∧
      DJ B w' S' bj b 1 j q k' ∧ Jrn.Rest 1 j T k' q ∧ Jrn.vw 1 j k'.safe = Jrn.vw 1 j (puts k.safe l) ∧ k'.cut = false ∧ Keep.Good u w' ∧ Below B u w') := Lib.hid (fun u h1 h2 => jopen_any hP (by omega) hT4 h1 h2 hI hu hd hc hq)
  have HME : Hid (∀ u : World, Calls Tryz.prog 53 #[.agg #[.int .i64 (j : Int), .int .i64 (i : Int), .int .i64 (g : Int), .int .i64 (pp : Int)]] u fun e w' => e = .returned (.int .i64 (3 + (i : Int) / 2)) ∧ Below u.heap.size u w') := Lib.hid (fun u => Super.meta_yes h.v u)
  have hsl : (secs m).length = 3 + i / 2 := by
    have h1 := hr.ilen
    have h2 := hr.even
    simp only at h1
    have h3 := length_secs hr
    simp only at h3
    omega
  have HRA : Hid (∀ (u : World) (S' : Nat → Prop) (bj : Nat) (k' : Dk Sx), DJ B u S' bj b 1 j q k' → Jrn.Rest 1 j T k' q → Jrn.vw 1 j k'.safe = Jrn.vw 1 j (puts k.safe l) → Calls Tryz.prog 62 #[.pointer (some ⟨b, 0, none⟩), .int .i64 (1 + (j : Int)), .int .i64 (3 + (i : Int) / 2)] u fun e w' => ∃ A c L, e = .returned (.slice A (3 + i / 2) c) ∧ SRow w' u.heap.size (.slice A (3 + i / 2) c) L (secs m) ∧ 3 + i / 2 ≤ c ∧ Below u.heap.size u w') := Lib.hid (fun u S' bj k' hdj hre hvw => by
    have := readAll_ok hdj.only (1 + (j : Int)) (1 + j) (3 + i / 2) (by omega) (by unfold allN blk0 at hT; omega) (by omega) (secs m) hsl (fun y hy => secs_64 hr ho y hy) (fun a y hy => by
      obtain ⟨c, h1, h2⟩ := hsm a y hy
      refine ⟨c, ?_, h2⟩
      rw [← hvw, Jrn.vw_out (.inr (by omega))] at h1
      unfold Dk.now; rw [hre.un]
      exact h1) hre.dead
    rwa [hi2] at this)
  have HTA : Hid (∀ (u : World) (A : Option Addr) (c : Nat) (L : List Sc), SecsAt u u.heap.size A L (secs m) → 3 + i / 2 ≤ c → Calls Tryz.prog 63 #[.agg #[.int .i64 (j : Int), .int .i64 (i : Int), .int .i64 (g : Int), .int .i64 (pp : Int)], .slice A (3 + i / 2) c] u fun e w' => ∃ x : Meta.Mem, e = .returned (.tuple #[.agg #[.slice x.rA m.rows.length x.rc, .slice x.oA m.own.length x.oc, .slice x.uA m.used.length x.uc, .slice x.iA m.ino.length x.ic], .int .i64 0]) ∧ OwnM w' u.heap.size x m ∧ Below u.heap.size u w') := Lib.hid (fun u A c L h1 h2 => by
    have := ptake_any ⟨j, i, g, pp⟩ (secs m) A (3 + i / 2) c L u hsl h1 (by omega) h2
    rw [tak_secs hr ho] at this
    exact this)
  have HCO : Hid (∀ (u : World) (x : Meta.Mem), Lies u u.heap.size x m → Calls Tryz.prog 64 #[.agg #[.int .i64 (j : Int), .int .i64 (i : Int), .int .i64 (g : Int), .int .i64 (pp : Int)], .agg #[.slice x.rA m.rows.length x.rc, .slice x.oA m.own.length x.oc, .slice x.uA m.used.length x.uc, .slice x.iA m.ino.length x.ic]] u fun e w' => e = .returned (.bool true) ∧ Below u.heap.size u w') := Lib.hid (fun u x hx => by
    obtain ⟨r1, r2, r3, r4, r5, r6, r7, r8⟩ := hr
    simp only at r3 r7
    have hrl : m.rows.length = 16 := r2.len
    obtain ⟨a1, a2, a3, a4, a5, a6, a7, a8⟩ := x
    have hol : m.own.length = g := by omega
    have hil : m.ino.length = i := by omega
    have := cons_ok h m ho hcs a1 a3 a5 a7 a2 a4 a6 a8 u hrl hol r5 hil r4 hx
    rw [hrl, hol, r5, hil]
    exact this)
  have HD := Lib.hid hD
  have HB0 := Lib.hid hB
  have HBB := Lib.hid (Below.refl B w)
  have HGD := Lib.hid (Good.refl w)
  have HSZ0 := Lib.hid (Nat.le_refl w.heap.size)
  clear h hD hB hT hT4 hI hu hd hc hq ho hr hcs hsm hlen hc0 hcb hr3 hj3 hgp hall hP hi2 hi60 hsl
  go_enter Tryz.func20, Tryz.ntmps20
  go_upto_region 1 with fail
  go_upto_region 2 with (go_at_call 60; (with_reducible refine (HFI.out _ HD.out).mono ?_); rintro e w1 ⟨he, hb⟩; obtain rfl := he; replace HD := Lib.hid (HD.out.below hb); replace HBB := Lib.hid (HBB.out.trans (hb.mono (Nat.le_trans HB0.out HBB.out.size))); replace HGD := Lib.hid (HGD.out.trans (Good.of_below hb)); replace HSZ0 := Lib.hid (Nat.le_trans HSZ0.out hb.size); clear hb)
  have hal := al_below w1 (.cells #[.int .i64 (j : Int), .int .i64 (i : Int), .int .i64 (g : Int), .int .i64 (pp : Int)] 29)
  replace HD := Lib.hid (HD.out.below hal)
  replace HBB := Lib.hid (HBB.out.trans (hal.mono (Nat.le_trans HB0.out HBB.out.size)))
  replace HGD := Lib.hid (HGD.out.trans (Good.of_below hal))
  replace HSZ0 := Lib.hid (Nat.le_trans HSZ0.out hal.size)
  have HG := Lib.hid (Bk.new w1 29 [.int .i64 (j : Int), .int .i64 (i : Int), .int .i64 (g : Int), .int .i64 (pp : Int)])
  clear hal
  have hs1 : (w1.alloc (.cells #[.int .i64 (j : Int), .int .i64 (i : Int), .int .i64 (g : Int), .int .i64 (pp : Int)] 29)).heap.size = w1.heap.size + 1 := by simp
  generalize hzU1 : w1.heap.size = zU1 at *
  clear hzU1
  generalize w1.alloc (.cells #[.int .i64 (j : Int), .int .i64 (i : Int), .int .i64 (g : Int), .int .i64 (pp : Int)] 29) = U1 at *
  have hal := al_below U1 (.cells #[.int .i64 1, .int .i64 (1 + (j : Int)), .int .i64 (1 + (j : Int) + 1), .int .i64 (1 + (j : Int) + 1 + 1), .int .i64 (1 + (j : Int) + 1 + 1 + 1), .int .i64 (1 + (j : Int) + 1 + 1 + 1 + (i : Int) / 2), .int .i64 (1 + (j : Int) + 1 + 1 + 1 + (i : Int) / 2 + (g : Int) * (pp : Int))] 82)
  replace HD := Lib.hid (HD.out.below hal)
  replace HG := Lib.hid (HG.out.below hal HG.out.lt)
  replace HBB := Lib.hid (HBB.out.trans (hal.mono (Nat.le_trans HB0.out HBB.out.size)))
  replace HGD := Lib.hid (HGD.out.trans (Good.of_below hal))
  replace HSZ0 := Lib.hid (Nat.le_trans HSZ0.out hal.size)
  have HP := Lib.hid (Bk.new U1 82 [.int .i64 1, .int .i64 (1 + (j : Int)), .int .i64 (1 + (j : Int) + 1), .int .i64 (1 + (j : Int) + 1 + 1), .int .i64 (1 + (j : Int) + 1 + 1 + 1), .int .i64 (1 + (j : Int) + 1 + 1 + 1 + (i : Int) / 2), .int .i64 (1 + (j : Int) + 1 + 1 + 1 + (i : Int) / 2 + (g : Int) * (pp : Int))])
  clear hal
  rw [hs1] at HP
  clear hs1
  generalize U1.alloc (.cells #[.int .i64 1, .int .i64 (1 + (j : Int)), .int .i64 (1 + (j : Int) + 1), .int .i64 (1 + (j : Int) + 1 + 1), .int .i64 (1 + (j : Int) + 1 + 1 + 1), .int .i64 (1 + (j : Int) + 1 + 1 + 1 + (i : Int) / 2), .int .i64 (1 + (j : Int) + 1 + 1 + 1 + (i : Int) / 2 + (g : Int) * (pp : Int))] 82) = U2 at *
  obtain ⟨g0, g1, g2, g3⟩ := four_cells HG.out
  obtain ⟨l0, l1, l2, l3, l4, l5, l6⟩ := seven_cells HP.out
  go_upto_region 4 with fail
  go_upto_region 7 with (go_at_call 61; (with_reducible refine (HJO.out _ HD.out (Nat.le_trans HB0.out HBB.out.size)).mono ?_); rintro e w2 ⟨bj, S', k', he, hdj, hre, hvw, hcut, hgd, hb⟩; obtain rfl := he; replace HG := Lib.hid (hgd.bk HG.out); replace HP := Lib.hid (hgd.bk HP.out); replace HBB := Lib.hid (HBB.out.trans hb); replace HGD := Lib.hid (HGD.out.trans hgd); replace HSZ0 := Lib.hid (Nat.le_trans HSZ0.out hgd.size); clear HD; have HD := Lib.hid hdj; have HRE := Lib.hid hre; have HVW := Lib.hid hvw; have HCUT := Lib.hid hcut; clear hdj hre hvw hcut; clear g0 g1 g2 g3 l0 l1 l2 l3 l4 l5 l6; clear hb hgd; obtain ⟨g0, g1, g2, g3⟩ := four_cells HG.out; obtain ⟨l0, l1, l2, l3, l4, l5, l6⟩ := seven_cells HP.out)
  clear HFI HJO
  have hS0 : Below w2.heap.size w2 w2.drew := (Below.refl _ _).drew
  refine wp_region_held_drew (S := fun u => Below w2.heap.size w2 u) (by kernel_rfl) hS0 (fun hHeld => ?_)
  clear g0 g1 g2 g3 l0 l1 l2 l3 l4 l5 l6
  clear hS0
  generalize hu0 : w2.drew = z0_ at *
  clear hu0
  refine wpAnyH_take (i := 0) (oi := _) (v := ?_) (by simp only [List.getElem?_toArray, List.getElem?_cons_zero]; rfl) (by kernel_rfl) (by kernel_rfl) (by kernel_rfl) (by exact fun _ _ _ h => h) (Or.inl ⟨by rfl, ?hya0⟩) (by exact hHeld) ?rea0
  case hya0 => (intro u hu; obtain ⟨g0, g1, g2, g3⟩ := Meta.four_cells (HG.out.below hu HG.out.lt); obtain ⟨l0, l1, l2, l3, l4, l5, l6⟩ := seven_cells (HP.out.below hu HP.out.lt); clear hu; go_simp <;> with_reducible rfl)
  try simp only [Act.put, List.setIfInBounds_toArray, List.set_cons_zero, List.set_cons_succ]
  refine wpAnyH_take (i := 1) (oi := _) (v := ?_) (by simp only [List.getElem?_toArray, List.getElem?_cons_succ, List.getElem?_cons_zero]; rfl) (by kernel_rfl) (by kernel_rfl) (by kernel_rfl) (by exact fun _ _ _ h => h) (Or.inl ⟨by rfl, ?hya1⟩) (by exact hHeld) ?rea1
  case hya1 => (intro u hu; obtain ⟨g0, g1, g2, g3⟩ := Meta.four_cells (HG.out.below hu HG.out.lt); obtain ⟨l0, l1, l2, l3, l4, l5, l6⟩ := seven_cells (HP.out.below hu HP.out.lt); clear hu; go_simp <;> with_reducible rfl)
  try simp only [Act.put, List.setIfInBounds_toArray, List.set_cons_zero, List.set_cons_succ]
  refine wpAnyH_take (i := 2) (oi := _) (v := ?_) (by simp only [List.getElem?_toArray, List.getElem?_cons_succ, List.getElem?_cons_zero]; rfl) (by kernel_rfl) (by kernel_rfl) (by kernel_rfl) (by exact fun _ _ _ h => h) (Or.inl ⟨by rfl, ?hya2⟩) (by exact hHeld) ?rea2
  case hya2 => (intro u hu; obtain ⟨g0, g1, g2, g3⟩ := Meta.four_cells (HG.out.below hu HG.out.lt); obtain ⟨l0, l1, l2, l3, l4, l5, l6⟩ := seven_cells (HP.out.below hu HP.out.lt); clear hu; go_simp <;> with_reducible rfl)
  try simp only [Act.put, List.setIfInBounds_toArray, List.set_cons_zero, List.set_cons_succ]
  refine wpAnyH_take (i := 3) (oi := _) (v := ?_) (by simp only [List.getElem?_toArray, List.getElem?_cons_succ, List.getElem?_cons_zero]; rfl) (by kernel_rfl) (by kernel_rfl) (by kernel_rfl) (by exact fun _ _ _ h => h) (Or.inl ⟨by rfl, ?hya3⟩) (by exact hHeld) ?rea3
  case hya3 => (intro u hu; obtain ⟨g0, g1, g2, g3⟩ := Meta.four_cells (HG.out.below hu HG.out.lt); obtain ⟨l0, l1, l2, l3, l4, l5, l6⟩ := seven_cells (HP.out.below hu HP.out.lt); clear hu; go_simp <;> with_reducible rfl)
  try simp only [Act.put, List.setIfInBounds_toArray, List.set_cons_zero, List.set_cons_succ]
  refine wpAnyH_ready (rs := [4]) (by kernel_rfl) (by simp) ?_
  refine AllReadyH.cons (o := _) (by simp only [List.getElem?_toArray, List.getElem?_cons_succ, List.getElem?_cons_zero]; rfl) (fun K hK => ?_) AllReadyH.nil
  go_simp
  (with_reducible refine (HME.out _).mono ?_)
  rintro e x1 ⟨he, hb⟩; obtain rfl := he
  have hS : Below w2.heap.size w2 x1 := hHeld.trans (hb.mono hHeld.size)
  clear hb
  go_simp
  refine hK.out _ _ hS (fun hHeld2 => ?_)
  clear hK K hHeld hS
  have hHeld := hHeld2
  clear hHeld2
  try simp only [Act.put, List.setIfInBounds_toArray, List.set_cons_zero, List.set_cons_succ]
  refine wpAnyH_ready (rs := [5]) (by kernel_rfl) (by simp) ?_
  refine AllReadyH.cons (o := _) (by simp only [List.getElem?_toArray, List.getElem?_cons_succ, List.getElem?_cons_zero]; rfl) (fun K hK => ?_) AllReadyH.nil
  go_simp
  (with_reducible refine (HRA.out _ _ _ _ (HD.out.below hHeld) HRE.out HVW.out).mono ?_)
  rintro e x2 ⟨A, c, L, he, hs, hcc, hb⟩; obtain rfl := he
  have HS := Lib.hid (SRow.lower hs (Nat.le_trans HSZ0.out hHeld.size))
  have HCC := Lib.hid hcc
  clear hs hcc
  have hS : Below w2.heap.size w2 x2 := hHeld.trans (hb.mono hHeld.size)
  clear hb
  go_simp
  refine hK.out _ _ hS (fun hHeld2 => ?_)
  clear hK K hHeld hS
  have hHeld := hHeld2
  clear hHeld2
  try simp only [Act.put, List.setIfInBounds_toArray, List.set_cons_zero, List.set_cons_succ]
  refine wpAnyH_take (i := 6) (oi := _) (v := ?_) (by simp only [List.getElem?_toArray, List.getElem?_cons_succ, List.getElem?_cons_zero]; rfl) (by kernel_rfl) (by kernel_rfl) (by kernel_rfl) (by exact fun _ _ _ h => h) (Or.inl ⟨by rfl, ?hya6⟩) (by exact hHeld) ?rea6
  case hya6 => (intro u hu; obtain ⟨g0, g1, g2, g3⟩ := Meta.four_cells (HG.out.below hu HG.out.lt); obtain ⟨l0, l1, l2, l3, l4, l5, l6⟩ := seven_cells (HP.out.below hu HP.out.lt); clear hu; go_simp <;> with_reducible rfl)
  try simp only [Act.put, List.setIfInBounds_toArray, List.set_cons_zero, List.set_cons_succ]
  refine wpAnyH_done (by kernel_rfl) ?_ _
  have hb := hHeld
  clear hHeld
  replace HG := Lib.hid (HG.out.below hb HG.out.lt)
  replace HP := Lib.hid (HP.out.below hb HP.out.lt)
  replace HD := Lib.hid (HD.out.below hb)
  replace HBB := Lib.hid (HBB.out.trans (hb.mono (Nat.le_trans HB0.out HBB.out.size)))
  replace HGD := Lib.hid (HGD.out.trans (Good.of_below hb))
  replace HSZ0 := Lib.hid (Nat.le_trans HSZ0.out hb.size)
  clear hb
  obtain ⟨g0, g1, g2, g3⟩ := four_cells HG.out
  obtain ⟨l0, l1, l2, l3, l4, l5, l6⟩ := seven_cells HP.out
  go_upto_region 9 with (go_at_call 63; have HSZX := HSZ0; (with_reducible refine (HTA.out _ _ _ _ (SRow.at_ HS.out).2 HCC.out).mono ?_); rintro e w3 ⟨x, he, hx, hb⟩; obtain rfl := he; replace HG := Lib.hid (HG.out.below hb HG.out.lt); replace HP := Lib.hid (HP.out.below hb HP.out.lt); replace HD := Lib.hid (HD.out.below hb); replace HS := Lib.hid (HS.out.below hb); replace HBB := Lib.hid (HBB.out.trans (hb.mono (Nat.le_trans HB0.out HBB.out.size))); replace HGD := Lib.hid (HGD.out.trans (Good.of_below hb)); replace HSZ0 := Lib.hid (Nat.le_trans HSZ0.out hb.size); have HX := Lib.hid (hx.base HSZX.out); clear hx HSZX; clear g0 g1 g2 g3 l0 l1 l2 l3 l4 l5 l6; clear hb; obtain ⟨g0, g1, g2, g3⟩ := four_cells HG.out; obtain ⟨l0, l1, l2, l3, l4, l5, l6⟩ := seven_cells HP.out)
  have hal := al_below w3 (.cells #[Value.slice x.rA m.rows.length x.rc, .slice x.oA m.own.length x.oc, .slice x.uA m.used.length x.uc, .slice x.iA m.ino.length x.ic] 60)
  replace HG := Lib.hid (HG.out.below hal HG.out.lt)
  replace HP := Lib.hid (HP.out.below hal HP.out.lt)
  replace HD := Lib.hid (HD.out.below hal)
  replace HS := Lib.hid (HS.out.below hal)
  replace HX := Lib.hid (HX.out.below hal)
  replace HBB := Lib.hid (HBB.out.trans (hal.mono (Nat.le_trans HB0.out HBB.out.size)))
  replace HGD := Lib.hid (HGD.out.trans (Good.of_below hal))
  replace HSZ0 := Lib.hid (Nat.le_trans HSZ0.out hal.size)
  have HM := Lib.hid (Bk.new w3 60 [Value.slice x.rA m.rows.length x.rc, .slice x.oA m.own.length x.oc, .slice x.uA m.used.length x.uc, .slice x.iA m.ino.length x.ic])
  clear g0 g1 g2 g3 l0 l1 l2 l3 l4 l5 l6
  clear hal
  generalize hzU3 : w3.heap.size = zU3 at *
  clear hzU3
  generalize w3.alloc (.cells #[Value.slice x.rA m.rows.length x.rc, .slice x.oA m.own.length x.oc, .slice x.uA m.used.length x.uc, .slice x.iA m.ino.length x.ic] 60) = U3 at *
  obtain ⟨g0, g1, g2, g3⟩ := four_cells HG.out
  obtain ⟨l0, l1, l2, l3, l4, l5, l6⟩ := seven_cells HP.out
  obtain ⟨m0, m1, m2, m3⟩ := four_cells HM.out
  go_upto_region 11 with (go_at_call 64; (with_reducible refine (HCO.out _ x HX.out.lies).mono ?_); rintro e w4 ⟨he, hb⟩; obtain rfl := he; replace HG := Lib.hid (HG.out.below hb HG.out.lt); replace HP := Lib.hid (HP.out.below hb HP.out.lt); replace HD := Lib.hid (HD.out.below hb); replace HS := Lib.hid (HS.out.below hb); replace HX := Lib.hid (HX.out.below hb); replace HM := Lib.hid (HM.out.below hb HM.out.lt); replace HBB := Lib.hid (HBB.out.trans (hb.mono (Nat.le_trans HB0.out HBB.out.size))); replace HGD := Lib.hid (HGD.out.trans (Good.of_below hb)); replace HSZ0 := Lib.hid (Nat.le_trans HSZ0.out hb.size); clear g0 g1 g2 g3 l0 l1 l2 l3 l4 l5 l6 m0 m1 m2 m3; clear hb; obtain ⟨g0, g1, g2, g3⟩ := four_cells HG.out; obtain ⟨l0, l1, l2, l3, l4, l5, l6⟩ := seven_cells HP.out; obtain ⟨m0, m1, m2, m3⟩ := four_cells HM.out)
  clear HME HRA HTA HCO
  have hmm := @run_makeMap Tryz.prog
  go_upto_region 12 with fail
  clear hmm m0 m1 m2 m3
  have hb : Below w4.heap.size w4 ((w4.alloc (.map #[] 0)).alloc (.cells #[.slice x.rA m.rows.length x.rc, .slice x.oA m.own.length x.oc, .slice x.uA m.used.length x.uc, .slice x.iA m.ino.length x.ic, .map (some w4.heap.size)] 97)) := ((Below.refl _ _).alloc (Nat.le_refl _) _).alloc (by simp) _
  have HMP : Hid (((w4.alloc (.map #[] 0)).alloc (.cells #[.slice x.rA m.rows.length x.rc, .slice x.oA m.own.length x.oc, .slice x.uA m.used.length x.uc, .slice x.iA m.ino.length x.ic, .map (some w4.heap.size)] 97)).heap[w4.heap.size]? = some (.map #[] 0)) := Lib.hid (by rw [((Below.refl (w4.heap.size + 1) (w4.alloc (.map #[] 0))).alloc (by simp) _).block _ (by simp)]; show (w4.heap.push (.map #[] 0))[w4.heap.size]? = _; exact Array.getElem?_push_size)
  have HST := Lib.hid (Bk.new (w4.alloc (.map #[] 0)) 97 [.slice x.rA m.rows.length x.rc, .slice x.oA m.own.length x.oc, .slice x.uA m.used.length x.uc, .slice x.iA m.ino.length x.ic, .map (some w4.heap.size)])
  rw [show (w4.alloc (.map #[] 0)).heap.size = w4.heap.size + 1 by simp] at HST
  have HZ4 := Lib.hid HSZ0.out
  replace HG := Lib.hid (HG.out.below hb HG.out.lt)
  replace HP := Lib.hid (HP.out.below hb HP.out.lt)
  replace HD := Lib.hid (HD.out.below hb)
  replace HS := Lib.hid (HS.out.below hb)
  replace HX := Lib.hid (HX.out.below hb)
  replace HBB := Lib.hid (HBB.out.trans (hb.mono (Nat.le_trans HB0.out HBB.out.size)))
  replace HGD := Lib.hid (HGD.out.trans (Good.of_below hb))
  replace HSZ0 := Lib.hid (Nat.le_trans HSZ0.out hb.size)
  clear g0 g1 g2 g3 l0 l1 l2 l3 l4 l5 l6
  clear hb
  generalize (w4.alloc (.map #[] 0)).alloc (.cells #[.slice x.rA m.rows.length x.rc, .slice x.oA m.own.length x.oc, .slice x.uA m.used.length x.uc, .slice x.iA m.ino.length x.ic, .map (some w4.heap.size)] 97) = U5 at *
  generalize w4.heap.size = zm at *
  obtain ⟨g0, g1, g2, g3⟩ := four_cells HG.out
  obtain ⟨l0, l1, l2, l3, l4, l5, l6⟩ := seven_cells HP.out
  obtain ⟨s0, s1, s2, s3, s4⟩ := five_cells HST.out
  go_wp2_with fail
  have HSZ5 := Lib.hid HSZ0.out
  have hal := al_below U5 (.cells (volC j i g pp b bj zm x m (.pointer none) A c false).toArray 102)
  replace HG := Lib.hid (HG.out.below hal HG.out.lt)
  replace HP := Lib.hid (HP.out.below hal HP.out.lt)
  replace HD := Lib.hid (HD.out.below hal)
  replace HS := Lib.hid (HS.out.below hal)
  replace HX := Lib.hid (HX.out.below hal)
  replace HBB := Lib.hid (HBB.out.trans (hal.mono (Nat.le_trans HB0.out HBB.out.size)))
  replace HGD := Lib.hid (HGD.out.trans (Good.of_below hal))
  replace HSZ0 := Lib.hid (Nat.le_trans HSZ0.out hal.size)
  have HV := Bk.new U5 102 (volC j i g pp b bj zm x m (.pointer none) A c false)
  have HMQ := (hal.block zm (lt_heap HMP.out)).trans HMP.out
  refine bodyPost_ret (v := .tuple #[.pointer (some ⟨U5.heap.size, 0, none⟩), .int .i64 0]) (by simp [results, Tryz.results20, go_sem]) rfl ?_
  exact ⟨U5.heap.size, bj, zm, S', k', x, A, c, L, rfl, HV, HMQ, HX.out, HS.out, HD.out, HRE.out, HVW.out, HCUT.out, by have := HSZ5.out; omega, HZ4.out, HGD.out, HBB.out⟩
end Go.Proofs.YtcjkbmmjpkghlaaGreat.Vol

/-
  A disk is made, formatted and mounted.
-/
namespace Go.Proofs.YtcjkbmmjpkghlaaGreat.Vol
open Go.RowKit Keep Meta

theorem fmt_puts (j i g pp : Nat) : puts (List.replicate (allN j i g pp) zx) (fmtL j i g pp) = fmtS j i g pp := by
  have hl := length_fmtS j i g pp
  apply List.ext_getElem?
  intro a
  rcases Nat.lt_or_ge a (allN j i g pp) with h | h
  · obtain ⟨c, hc⟩ : ∃ c, (fmtS j i g pp)[a]? = some c := ⟨_, List.getElem?_eq_getElem (by rw [hl]; exact h)⟩
    have := puts_placed (fmtS j i g pp) 0 (List.replicate (allN j i g pp) zx) (by rw [hl, List.length_replicate]; omega) a c hc
    rw [Nat.zero_add] at this
    rw [hc]
    exact this
  · rw [List.getElem?_eq_none (by rw [length_puts, List.length_replicate]; exact h), List.getElem?_eq_none (by rw [hl]; exact h)]
theorem fmt_disk (j i g pp : Nat) : (((Dk.fresh (allN j i g pp) zx).writes (fmtL j i g pp)).2.safe = fmtS j i g pp) ∧ (((Dk.fresh (allN j i g pp) zx).writes (fmtL j i g pp)).2.un = []) ∧ (((Dk.fresh (allN j i g pp) zx).writes (fmtL j i g pp)).2.dead = false) ∧ (((Dk.fresh (allN j i g pp) zx).writes (fmtL j i g pp)).2.cut = false) := by
  rcases Jrn.writes_cases (fmtL j i g pp) (Dk.fresh (allN j i g pp) zx) rfl with ⟨h1, h2, h3, h4, h5⟩ | ⟨h1, _⟩
  · exact ⟨h2.trans (fmt_puts j i g pp), h3, h4, h5⟩
  · cases h1
theorem fmt_zero {j i g pp a : Nat} (h1 : 1 ≤ a) (h2 : a < allN j i g pp) : (fmtS j i g pp)[a]? = some zx := by
  obtain ⟨n, rfl⟩ : ∃ n, a = n + 1 := ⟨a - 1, by omega⟩
  unfold fmtS
  rw [List.getElem?_cons_succ, List.getElem?_replicate, if_pos (by omega)]
theorem fmt_img {j i g pp : Nat} (h : VG j i g pp) : Jrn.Img 1 j (allN j i g pp) (fmtS j i g pp) 0 [] := by
  have h1 := h.v.j1
  exact ⟨length_fmtS _ _ _ _, ⟨zx, fmt_zero (by omega) (by unfold allN blk0; omega), .inr ⟨rfl, rfl, rfl⟩⟩, Jrn.loads_nil _ _, fun p hp => (by cases hp), by rw [length_stored]; simp; omega⟩
theorem zero_unused (pp q : Nat) : usedG pp (List.replicate 64 0) q = false := by
  unfold usedG
  rw [Bits.cnt_zero (fun a _ => by unfold Bits.cnd; rw [hb_zeros]; simp)]
  rfl
theorem new_cons (pp : Nat) (G : Meta.Geo) : Cons pp (newM G) where
  free q _ := zero_unused pp q
  held q o h ho := by
    have := List.mem_of_getElem? h
    rw [List.eq_of_mem_replicate this] at ho
    omega
  ino n hn hk := by
    rw [List.eq_of_mem_replicate hn] at hk
    exact absurd rfl hk
theorem secs_fmt {j i g pp : Nat} (h : VG j i g pp) (a : Nat) (y : List UInt8) (hy : (secs (newM ⟨j, i, g, pp⟩))[a]? = some y) : ∃ c, Jrn.vw 1 j (fmtS j i g pp) (1 + j + a) = some c ∧ c.b = y := by
  have hv : (⟨j, i, g, pp⟩ : Meta.Geo).Ok := h.v
  rw [secs_new hv, List.getElem?_replicate] at hy
  split at hy
  · rename_i hlt
    cases hy
    simp only at hlt
    have := h.v.g1
    have := h.v.p1
    have hgp : 1 ≤ g * pp := Nat.mul_pos (by omega) (by omega)
    refine ⟨zx, ?_, rfl⟩
    rw [Jrn.vw_out (.inr (by omega))]
    exact fmt_zero (by omega) (by unfold allN blk0; omega)
  · cases hy
set_option maxRecDepth 100000 in
set_option maxHeartbeats 6400000 in
theorem built_ok {j i g pp : Nat} (h : VG j i g pp) (w : World) :
    Calls Tryz.prog 10 #[.agg #[.int .i64 (j : Int), .int .i64 (i : Int), .int .i64 (g : Int), .int .i64 (pp : Int)]] w fun e w' => ∃ (b bv bj bm : Nat) (S' : Nat → Prop) (k' : Dk Sx) (x : Meta.Mem) (A : Option Addr) (c : Nat) (L : List Sc), e = .returned (.tuple #[.pointer (some ⟨b, 0, none⟩), .pointer (some ⟨bv, 0, none⟩), .bool true]) ∧ Bk w' bv 102 (volC j i g pp b bj bm x (newM ⟨j, i, g, pp⟩) (.pointer none) A c false) ∧ w'.heap[bm]? = some (.map #[] 0) ∧ OwnM w' w.heap.size x (newM ⟨j, i, g, pp⟩) ∧ SRow w' w.heap.size (.slice A (3 + i / 2) c) L (secs (newM ⟨j, i, g, pp⟩)) ∧
      DJ w.heap.size w' S' bj b 1 j 0 k' ∧ Jrn.Rest 1 j (allN j i g pp) k' 0 ∧ Jrn.vw 1 j k'.safe = Jrn.vw 1 j (fmtS j i g pp) ∧ k'.cut = false ∧ w.heap.size ≤ bv ∧ w.heap.size ≤ bm ∧ Below w.heap.size w w' := by
  have hmax := h.all
  have hallE := allN_eq j i g pp
  have HPL : Hid (∀ u : World, Calls Tryz.prog 46 #[.agg #[.int .i64 (j : Int), .int .i64 (i : Int), .int .i64 (g : Int), .int .i64 (pp : Int)]] u fun e w' => e = .returned (.tuple #[.agg #[.int .i64 1, .int .i64 (1 + (j : Int)), .int .i64 (1 + (j : Int) + 1), .int .i64 (1 + (j : Int) + 1 + 1), .int .i64 (1 + (j : Int) + 1 + 1 + 1), .int .i64 (1 + (j : Int) + 1 + 1 + 1 + (i : Int) / 2), .int .i64 (1 + (j : Int) + 1 + 1 + 1 + (i : Int) / 2 + (g : Int) * (pp : Int))], .int .i64 0]) ∧ Below u.heap.size u w') := Lib.hid (fun u => Super.plan_yes h.v u)
  have HDN : Hid (∀ u : World, Calls Tryz.prog 47 #[.int .i64 (allN j i g pp : Int)] u fun e w' => ∃ b S, e = .returned (.tuple #[.pointer (some ⟨b, 0, none⟩), .int .i64 0]) ∧ Below u.heap.size u w' ∧ IsDisk sx w' S b (Dk.fresh (allN j i g pp) zx) ∧ ∀ i, S i → u.heap.size ≤ i) := Lib.hid (fun u => new_any u (allN j i g pp) (by omega) zx rfl)
  have HFO : Hid (∀ (u : World) (S : Nat → Prop) (b : Nat), DO w.heap.size u S b (Dk.fresh (allN j i g pp) zx) → w.heap.size ≤ u.heap.size → Calls Tryz.prog 41 #[.pointer (some ⟨b, 0, none⟩), .agg #[.int .i64 (j : Int), .int .i64 (i : Int), .int .i64 (g : Int), .int .i64 (pp : Int)]] u fun e w' => ∃ S' k1, e = .returned (.int .i64 0) ∧ DO w.heap.size w' S' b k1 ∧ k1.safe = fmtS j i g pp ∧ k1.un = [] ∧ k1.dead = false ∧ k1.cut = false ∧ Keep.Good u w' ∧ Below w.heap.size u w') := Lib.hid (fun u S b hu hs => by
    refine (format_ok h hu hs (by simp [Dk.fresh]) rfl rfl (by simp [Dk.fresh])).mono ?_
    rintro e w' ⟨he, ⟨S', hS'⟩, h1, h2⟩
    obtain ⟨f1, f2, f3, f4⟩ := fmt_disk j i g pp
    exact ⟨S', _, he, hS', f1, f2, f3, f4, h1, h2⟩)
  have HMO : Hid (∀ (u : World) (S : Nat → Prop) (b : Nat) (k1 : Dk Sx), DO w.heap.size u S b k1 → w.heap.size ≤ u.heap.size → k1.safe = fmtS j i g pp → k1.un = [] → k1.dead = false → k1.cut = false → Calls Tryz.prog 20 #[.pointer (some ⟨b, 0, none⟩)] u fun e w' => ∃ (bv bj bm : Nat) (S' : Nat → Prop) (k' : Dk Sx) (x : Meta.Mem) (A : Option Addr) (c : Nat) (L : List Sc), e = .returned (.tuple #[.pointer (some ⟨bv, 0, none⟩), .int .i64 0]) ∧ Bk w' bv 102 (volC j i g pp b bj bm x (newM ⟨j, i, g, pp⟩) (.pointer none) A c false) ∧ w'.heap[bm]? = some (.map #[] 0) ∧ OwnM w' u.heap.size x (newM ⟨j, i, g, pp⟩) ∧ SRow w' u.heap.size (.slice A (3 + i / 2) c) L (secs (newM ⟨j, i, g, pp⟩)) ∧
      DJ w.heap.size w' S' bj b 1 j 0 k' ∧ Jrn.Rest 1 j (allN j i g pp) k' 0 ∧ Jrn.vw 1 j k'.safe = Jrn.vw 1 j (fmtS j i g pp) ∧ k'.cut = false ∧ u.heap.size ≤ bv ∧ u.heap.size ≤ bm ∧ Keep.Good u w' ∧ Below w.heap.size u w') := Lib.hid (fun u S b k1 hu hs f1 f2 f3 f4 => by
    have hv : (⟨j, i, g, pp⟩ : Meta.Geo).Ok := h.v
    have := mount_ok h hu hs (T := allN j i g pp) (q := 0) (Nat.le_refl _) (by omega) (l := []) (by rw [f1]; exact fmt_img h) f2 f3 f4 (by decide) (newM_okm _) (newM_right hv) (new_cons pp _)
      ⟨supX j i g pp, by unfold Dk.now; rw [f1, f2]; rfl, rfl⟩ (fun a y hy => by rw [f1]; exact secs_fmt h a y hy)
    rw [f1] at this
    exact this)
  have HALE := Lib.hid hallE
  clear hallE
  have HBB := Lib.hid (Below.refl w.heap.size w)
  clear h
  go_enter Tryz.func10, Tryz.ntmps10
  go_upto_region 1 with fail
  have hal := al_below w (.cells #[.int .i64 (j : Int), .int .i64 (i : Int), .int .i64 (g : Int), .int .i64 (pp : Int)] 29)
  replace HBB := Lib.hid (HBB.out.trans (hal.mono HBB.out.size))
  have HG := Lib.hid (Bk.new w 29 [.int .i64 (j : Int), .int .i64 (i : Int), .int .i64 (g : Int), .int .i64 (pp : Int)])
  clear hal
  generalize w.alloc (.cells #[.int .i64 (j : Int), .int .i64 (i : Int), .int .i64 (g : Int), .int .i64 (pp : Int)] 29) = U1 at *
  obtain ⟨g0, g1, g2, g3⟩ := four_cells HG.out
  go_upto_region 2 with (go_at_call 46; (with_reducible refine (HPL.out _).mono ?_); rintro e w1 ⟨he, hb⟩; obtain rfl := he; replace HG := Lib.hid (HG.out.below hb HG.out.lt); replace HBB := Lib.hid (HBB.out.trans (hb.mono HBB.out.size)); clear g0 g1 g2 g3; clear hb; obtain ⟨g0, g1, g2, g3⟩ := four_cells HG.out)
  have hal := al_below w1 (.cells #[.int .i64 1, .int .i64 (1 + (j : Int)), .int .i64 (1 + (j : Int) + 1), .int .i64 (1 + (j : Int) + 1 + 1), .int .i64 (1 + (j : Int) + 1 + 1 + 1), .int .i64 (1 + (j : Int) + 1 + 1 + 1 + (i : Int) / 2), .int .i64 (1 + (j : Int) + 1 + 1 + 1 + (i : Int) / 2 + (g : Int) * (pp : Int))] 82)
  replace HG := Lib.hid (HG.out.below hal HG.out.lt)
  replace HBB := Lib.hid (HBB.out.trans (hal.mono HBB.out.size))
  have HP := Lib.hid (Bk.new w1 82 [.int .i64 1, .int .i64 (1 + (j : Int)), .int .i64 (1 + (j : Int) + 1), .int .i64 (1 + (j : Int) + 1 + 1), .int .i64 (1 + (j : Int) + 1 + 1 + 1), .int .i64 (1 + (j : Int) + 1 + 1 + 1 + (i : Int) / 2), .int .i64 (1 + (j : Int) + 1 + 1 + 1 + (i : Int) / 2 + (g : Int) * (pp : Int))])
  clear g0 g1 g2 g3
  clear hal
  generalize hzU2 : w1.heap.size = zU2 at *
  clear hzU2
  generalize w1.alloc (.cells #[.int .i64 1, .int .i64 (1 + (j : Int)), .int .i64 (1 + (j : Int) + 1), .int .i64 (1 + (j : Int) + 1 + 1), .int .i64 (1 + (j : Int) + 1 + 1 + 1), .int .i64 (1 + (j : Int) + 1 + 1 + 1 + (i : Int) / 2), .int .i64 (1 + (j : Int) + 1 + 1 + 1 + (i : Int) / 2 + (g : Int) * (pp : Int))] 82) = U2 at *
  obtain ⟨g0, g1, g2, g3⟩ := four_cells HG.out
  obtain ⟨l0, l1, l2, l3, l4, l5, l6⟩ := seven_cells HP.out
  rw [← HALE.out] at l6
  go_upto_region 3 with (go_at_call 47; have HZX := Lib.hid HBB.out.size; (with_reducible refine (HDN.out _).mono ?_); rintro e w2 ⟨b, S, he, hb, hD, hlo⟩; obtain rfl := he; replace HG := Lib.hid (HG.out.below hb HG.out.lt); replace HP := Lib.hid (HP.out.below hb HP.out.lt); replace HBB := Lib.hid (HBB.out.trans (hb.mono HBB.out.size)); have HD : Hid (DO w.heap.size w2 S b (Dk.fresh (allN j i g pp) zx)) := Lib.hid ⟨hD, fun q hq => Nat.le_trans HZX.out (hlo q hq)⟩; clear hD hlo HZX; clear g0 g1 g2 g3 l0 l1 l2 l3 l4 l5 l6; clear hb; obtain ⟨g0, g1, g2, g3⟩ := four_cells HG.out; obtain ⟨l0, l1, l2, l3, l4, l5, l6⟩ := seven_cells HP.out)
  clear l0 l1 l2 l3 l4 l5 l6
  clear HP
  go_upto_region 5 with (go_at_call 41; (with_reducible refine (HFO.out _ _ _ HD.out HBB.out.size).mono ?_); rintro e w3 ⟨S1, k1, he, hdo, f1, f2, f3, f4, hgd, hb⟩; obtain rfl := he; replace HG := Lib.hid (hgd.bk HG.out); replace HBB := Lib.hid (HBB.out.trans hb); clear HD; have HD := Lib.hid hdo; have F1 := Lib.hid f1; have F2 := Lib.hid f2; have F3 := Lib.hid f3; have F4 := Lib.hid f4; clear hdo f1 f2 f3 f4; clear g0 g1 g2 g3; clear hb hgd; obtain ⟨g0, g1, g2, g3⟩ := four_cells HG.out)
  go_wp2_with (go_at_call 20; have HZX := Lib.hid HBB.out.size; (with_reducible refine (HMO.out _ _ _ _ HD.out HBB.out.size F1.out F2.out F3.out F4.out).mono ?_); rintro e w4 ⟨bv, bj, bm, S', k', x, A, c, L, he, r1, r2, r3, r4, r5, r6, r7, r8, r9, r10, hgd, hb⟩; obtain rfl := he; replace HG := Lib.hid (hgd.bk HG.out); replace HBB := Lib.hid (HBB.out.trans hb); have R := Lib.hid (And.intro r1 (And.intro r2 (And.intro (r3.base HZX.out) (And.intro (r4.lower HZX.out) (And.intro r5 (And.intro r6 (And.intro r7 (And.intro r8 (And.intro (Nat.le_trans HZX.out r9) (Nat.le_trans HZX.out r10)))))))))); clear HZX r1 r2 r3 r4 r5 r6 r7 r8 r9 r10; clear g0 g1 g2 g3; clear hb hgd; obtain ⟨g0, g1, g2, g3⟩ := four_cells HG.out)
  clear HPL HDN HFO HMO
  obtain ⟨r1, r2, r3, r4, r5, r6, r7, r8, r9, r10⟩ := R.out
  refine bodyPost_ret (v := .tuple #[.pointer (some ⟨b, 0, none⟩), .pointer (some ⟨bv, 0, none⟩), .bool true]) (by simp [results, Tryz.results10, go_sem]) rfl ?_
  exact ⟨b, bv, bj, bm, S', k', x, A, c, L, rfl, r1, r2, r3, r4, r5, r6, r7, r8, r9, r10, HBB.out⟩
end Go.Proofs.YtcjkbmmjpkghlaaGreat.Vol

/-
  Maps whose keys are ints, as they are seen from outside: what stands at a key, whether it is there, how many there are.
-/
namespace Go.Proofs.YtcjkbmmjpkghlaaGreat.Vol
open Go.RowKit Go.Maps Go.ChangeShapes Go.WideShapes

/-- A key. -/
def keyL (s : Int) : Lit := .int .i64 s
theorem keyL_is (s : Int) : WideAt.IsKeyLit (keyL s) := trivial
theorem keyL_ne {s t : Int} (h : s ≠ t) : keyL s ≠ keyL t := fun e => h (by simpa [keyL] using e)
theorem keyL_same (s t : Int) : (keyL s).sameKey (keyL t) = decide (s = t) := by simp [keyL, Lit.sameKey]
theorem key3 : Keyed Tryz.prog 3 := int_keyed Tryz.underlying3
/-- An int is one. -/
def I64 (s : Int) : Prop := -9223372036854775808 ≤ s ∧ s ≤ 9223372036854775807
theorem wf_of {s : Int} (h : I64 s) : (Lit.int .i64 s).wf = true := WalkArith.wf_i64 h
theorem of_wf {s : Int} (h : (Lit.int .i64 s).wf = true) : I64 s := by
  have := bounds_i64 h
  unfold I64; omega
theorem key3_of {s : Int} (h : I64 s) : keyOf Tryz.prog 3 (.int .i64 s) = some (keyL s) := keyOf_int_mk Tryz.underlying3 (wf_of h)

/-- Elements of a kind: how they lie, how they read. -/
structure Elem {β : Type} (e : TypeId) (R : Value → Option (DataW Unit × List MemPlace)) (enc : β → Value) (dat : β → DataW Unit) (ok : β → Prop) (z : β) : Prop where
  make : ∀ x, ok x → R (enc x) = some (dat x, [])
  inv : ∀ v y, R v = some y → ∃ x, v = enc x ∧ y = (dat x, []) ∧ ok x
  inj : ∀ x y, dat x = dat y → x = y
  zero : ∀ w, (zeroValue e).run Tryz.prog w = .ok (enc z) w
  okz : ok z

section
variable {β : Type} {e t : TypeId} {R : Value → Option (DataW Unit × List MemPlace)} {enc : β → Value} {dat : β → DataW Unit} {ok : β → Prop} {z : β}

/-- A map in a block: at a key s stands at_ s; it has m keys. -/
def MapIs (R : Value → Option (DataW Unit × List MemPlace)) (dat : β → DataW Unit) (z : β) (w : World) (b : Nat) (at_ : Int → β) (there : Int → Bool) (m : Nat) : Prop :=
  ∃ D : DataW Unit, w.ownsMap Tryz.prog 3 R b m D ∧ (∀ s, D.atKey (keyL s) (dat z) = dat (at_ s)) ∧ (∀ s, has D (keyL s) = there s) ∧ size D = m

theorem tight {w : World} {b n : Nat} {D : DataW Unit} (h : w.ownsMap Tryz.prog 3 R b n D) : w.ownsMap Tryz.prog 3 R b (size D) D := by
  obtain ⟨es, clock, hb, F, hs, rfl⟩ := h
  exact ⟨es, clock, hb, F, by simp [size, length_sorted], rfl⟩

variable {w : World} {b m : Nat} {at_ : Int → β} {there : Int → Bool}

theorem MapIs.lt (h : MapIs R dat z w b at_ there m) : b < w.heap.size := by
  obtain ⟨D, h1, _⟩ := h
  exact h1.lt
theorem MapIs.keep {w' : World} (h : MapIs R dat z w b at_ there m) (hb : w'.heap[b]? = w.heap[b]?) : MapIs R dat z w' b at_ there m := by
  obtain ⟨D, ⟨es, clock, h1, h2⟩, h3⟩ := h
  exact ⟨D, ⟨es, clock, hb.trans h1, h2⟩, h3⟩
theorem MapIs.isMap (h : MapIs R dat z w b at_ there m) : ∃ es clock, w.heap[b]? = some (.map es clock) := by
  obtain ⟨D, ⟨es, clock, h1, _⟩, _⟩ := h
  exact ⟨es, clock, h1⟩
theorem MapIs.made (w : World) (R : Value → Option (DataW Unit × List MemPlace)) (dat : β → DataW Unit) (z : β) : MapIs R dat z (w.alloc (.map #[] 0)) w.heap.size (fun _ => z) (fun _ => false) 0 :=
  ⟨.map [], World.ownsMap_made w Tryz.prog 3 R, fun _ => rfl, fun _ => rfl, rfl⟩

theorem MapIs.look (E : Elem e R enc dat ok z) (ht : Tryz.prog.underlying t = some (.map 3 e)) (h : MapIs R dat z w b at_ there m) {s : Int} (hs : I64 s) :
    (Instr.lookup t (.map (some b)) (.int .i64 s) false).run Tryz.prog w = .ok (enc (at_ s)) w ∧ ok (at_ s) := by
  obtain ⟨D, h1, h2, _⟩ := h
  obtain ⟨v, ps, hrun, hv⟩ := h1.lookup key3 ht (E.zero w) (E.make z E.okz) (key3_of hs)
  obtain ⟨x, rfl, hx, hok⟩ := E.inv _ _ hv
  have e1 := h2 s
  rw [Prod.mk.injEq] at hx
  obtain rfl := E.inj _ _ (hx.1.symm.trans e1)
  exact ⟨hrun, hok⟩

theorem MapIs.put (E : Elem e R enc dat ok z) (ht : Tryz.prog.underlying t = some (.map 3 e)) (h : MapIs R dat z w b at_ there m) (hm : m < maxLen) {s : Int} (hs : I64 s) {x : β} (hx : ok x) :
    ∃ w', (Instr.mapUpdate t (.map (some b)) (.int .i64 s) (enc x)).run Tryz.prog w = .ok () w' ∧ MapIs R dat z w' b (fun k => if k = s then x else at_ k) (fun k => k == s || there k) (if there s then m else m + 1) ∧ w.grownBy w' (some b) := by
  obtain ⟨D, h1, h2, h3, h4⟩ := h
  obtain ⟨w', hrun, h5, h6⟩ := h1.update key3 ht hm (key3_of hs) (E.make x hx)
  have hT := h1.tidy key3
  have hsz : size (D.put (keyL s) (dat x)) = if there s then m else m + 1 := by rw [size_put hT, h3 s, h4]
  refine ⟨w', hrun, ⟨_, by have := tight h5; rwa [hsz] at this, fun k => ?_, fun k => ?_, hsz⟩, h6⟩
  · by_cases hk : k = s
    · subst hk; simp [atKey_put_same hT.isMap (keyL_is k)]
    · simp [hk, atKey_put_other (keyL_ne hk), h2]
  · by_cases hk : k = s
    · subst hk; simp [has_put_same hT.isMap (keyL_is k)]
    · rw [has_put_other (keyL_ne hk), h3]; simp [hk]

theorem MapIs.del (ht : Tryz.prog.underlying t = some (.map 3 e)) (h : MapIs R dat z w b at_ there m) {s : Int} (hs : I64 s) (ty : TypeId) :
    ∃ w', (Builtin.delete_ #[t, 3] ty #[.map (some b), .int .i64 s]).run Tryz.prog w = .ok (.tuple #[]) w' ∧ MapIs R dat z w' b (fun k => if k = s then z else at_ k) (fun k => k != s && there k) (if there s then m - 1 else m) ∧ w.grownBy w' (some b) := by
  obtain ⟨D, h1, h2, h3, h4⟩ := h
  obtain ⟨w', hrun, h5, h6⟩ := h1.drop key3 ht (key3_of hs) ty
  have hT := h1.tidy key3
  have hsz : size (D.del (keyL s)) = if there s then m - 1 else m := by
    have := size_del (k := keyL s) hT
    rw [h3 s, h4] at this
    split <;> simp_all <;> omega
  refine ⟨w', hrun, ⟨_, by have := tight h5; rwa [hsz] at this, fun k => ?_, fun k => ?_, hsz⟩, h6.grown⟩
  · by_cases hk : k = s
    · subst hk; simp [atKey_del_same]
    · simp [hk, atKey_del_other (keyL_ne hk), h2]
  · by_cases hk : k = s
    · subst hk; simp [has_del_same]
    · rw [has_del_other (keyL_ne hk), h3]; simp [hk]

theorem MapIs.len (ht : Tryz.prog.underlying t = some (.map 3 e)) (h : MapIs R dat z w b at_ there m) (ty : TypeId) : (Builtin.len_ #[t] ty #[.map (some b)]).run Tryz.prog w = .ok (.int .i64 (m : Int)) w := by
  obtain ⟨D, h1, h2, h3, h4⟩ := h
  rw [← h4]
  exact h1.len ht ty

/-- 'm[s] = x' at the operation. -/
theorem wp_mput {o : Oper} {a : Act} {K : Act → World → Prop} {Q : Exit → Act → World → Prop} (mo so vo : Operand) (ho : o.op = Op.mapUpdate t mo so vo) (E : Elem e R enc dat ok z) (ht : Tryz.prog.underlying t = some (.map 3 e)) (hm : a.eval mo = .map (some b))
    (h : MapIs R dat z w b at_ there m) (hlt : m < maxLen) {s : Int} (hs : I64 s) (hse : a.eval so = .int .i64 s) {x : β} (hx : ok x) (hxe : a.eval vo = enc x)
    (hK : ∀ w', MapIs R dat z w' b (fun k => if k = s then x else at_ k) (fun k => k == s || there k) (if there s then m else m + 1) → w.grownBy w' (some b) → K (a.put o.dst undef) w') : o.wp Tryz.prog a w K Q := by
  obtain ⟨w', hrun, h1, h2⟩ := h.put E ht hlt hs hx
  unfold Oper.wp
  simp [execOp, ho, hm, hse, hxe, hrun, Result.andThen]
  exact hK w' h1 h2
theorem wpList_mput {ops : Array Oper} {rest : List Oper} {o : Oper} {a : Act} {Q : Exit → Act → World → Prop} (hg : o.guard = none) (mo so vo : Operand) (ho : o.op = Op.mapUpdate t mo so vo) (E : Elem e R enc dat ok z) (ht : Tryz.prog.underlying t = some (.map 3 e)) (hm : a.eval mo = .map (some b))
    (h : MapIs R dat z w b at_ there m) (hlt : m < maxLen) {s : Int} (hs : I64 s) (hse : a.eval so = .int .i64 s) {x : β} (hx : ok x) (hxe : a.eval vo = enc x)
    (hK : ∀ w', MapIs R dat z w' b (fun k => if k = s then x else at_ k) (fun k => k == s || there k) (if there s then m else m + 1) → w.grownBy w' (some b) → wpList Tryz.prog ops Q rest (a.put o.dst undef) w') : wpList Tryz.prog ops Q (o :: rest) a w :=
  wpList_plain hg fun _ hK' => wp_mput mo so vo ho E ht hm h hlt hs hse hx hxe fun w' h1 h2 => hK' _ _ (hK w' h1 h2)
/-- 'delete(m, s)' at the operation. -/
theorem wp_mdel {o : Oper} {a : Act} {K : Act → World → Prop} {Q : Exit → Act → World → Prop} (mo so : Operand) (ho : o.op = Op.call { callee := Callee.builtin Builtin.delete, args := #[mo, so], argTypes := #[t, 3] }) (ht : Tryz.prog.underlying t = some (.map 3 e)) (hm : a.eval mo = .map (some b))
    (h : MapIs R dat z w b at_ there m) {s : Int} (hs : I64 s) (hse : a.eval so = .int .i64 s)
    (hK : ∀ w', MapIs R dat z w' b (fun k => if k = s then z else at_ k) (fun k => k != s && there k) (if there s then m - 1 else m) → w.grownBy w' (some b) → K (a.put o.dst (.tuple #[])) w') : o.wp Tryz.prog a w K Q := by
  obtain ⟨w', hrun, h1, h2⟩ := h.del ht hs o.type
  unfold Oper.wp
  simp [execOp, ho, resolve, invoke, builtin, hm, hse, hrun, Result.andThen]
  exact hK w' h1 h2
theorem wpList_mdel {ops : Array Oper} {rest : List Oper} {o : Oper} {a : Act} {Q : Exit → Act → World → Prop} (hg : o.guard = none) (mo so : Operand) (ho : o.op = Op.call { callee := Callee.builtin Builtin.delete, args := #[mo, so], argTypes := #[t, 3] }) (ht : Tryz.prog.underlying t = some (.map 3 e)) (hm : a.eval mo = .map (some b))
    (h : MapIs R dat z w b at_ there m) {s : Int} (hs : I64 s) (hse : a.eval so = .int .i64 s)
    (hK : ∀ w', MapIs R dat z w' b (fun k => if k = s then z else at_ k) (fun k => k != s && there k) (if there s then m - 1 else m) → w.grownBy w' (some b) → wpList Tryz.prog ops Q rest (a.put o.dst (.tuple #[])) w') : wpList Tryz.prog ops Q (o :: rest) a w :=
  wpList_plain hg fun _ hK' => wp_mdel mo so ho ht hm h hs hse fun w' h1 h2 => hK' _ _ (hK w' h1 h2)

/-- The same, told otherwise. -/
theorem MapIs.as {at2 : Int → β} {there2 : Int → Bool} {m2 : Nat} (h : MapIs R dat z w b at_ there m) (h1 : ∀ s, at_ s = at2 s) (h2 : ∀ s, there s = there2 s) (h3 : m = m2) : MapIs R dat z w b at2 there2 m2 := by
  obtain rfl : at_ = at2 := funext h1
  obtain rfl : there = there2 := funext h2
  subst h3
  exact h
end

/-! What a block is to be, with its tag. -/
theorem sx_inj {c d : Sx} (h : sx c = sx d) : c = d := by
  unfold sx at h
  obtain ⟨h1, h2⟩ := List.append_inj h (by rw [length_bytesV, length_bytesV, c.hb, d.hb])
  refine Sx.same (bytesV_inj h1) ?_
  have : (c.t : Int) = d.t := by simpa using h2
  omega
def conV (c : Sx) : Value := .agg (sx c).toArray
def conD (c : Sx) : DataW Unit := .lit (.string (c.b ++ [UInt8.ofNat (c.t / 256), UInt8.ofNat c.t]))
noncomputable def conR (v : Value) : Option (DataW Unit × List MemPlace) := @dite _ (∃ c : Sx, v = conV c) (Classical.propDecidable _) (fun h => some (conD h.choose, [])) fun _ => none
theorem conV_inj {c d : Sx} (h : conV c = conV d) : c = d := by
  unfold conV at h
  injection h with h
  exact sx_inj (by simpa using congrArg Array.toList h)
theorem conR_of (c : Sx) : conR (conV c) = some (conD c, []) := by
  unfold conR
  have hx : ∃ d : Sx, conV c = conV d := ⟨c, rfl⟩
  rw [dif_pos hx]
  rw [← conV_inj hx.choose_spec]
theorem conE : Elem 133 conR conV conD (fun _ => True) zx where
  make c _ := conR_of c
  inv v y h := by
    unfold conR at h
    split at h
    · rename_i hx
      exact ⟨hx.choose, hx.choose_spec, (Option.some.inj h).symm, trivial⟩
    · cases h
  inj c d h := by
    unfold conD at h
    injection h with h
    injection h with h
    obtain ⟨h1, h2⟩ := List.append_inj h (by rw [c.hb, d.hb])
    refine Sx.same h1 ?_
    have h3 := c.ht
    have h4 := d.ht
    simp only [List.cons.injEq, and_true] at h2
    have e1 := congrArg UInt8.toNat h2.1
    have e2 := congrArg UInt8.toNat h2.2
    simp only [UInt8.toNat_ofNat'] at e1 e2
    omega
  zero w := by kernel_rfl
  okz := trivial
end Go.Proofs.YtcjkbmmjpkghlaaGreat.Vol

/-
  A state in the heap: its cells, what is known, where it may write. use, retain, release.
-/
namespace Go.Proofs.YtcjkbmmjpkghlaaGreat.Vol
open Go.RowKit Keep Meta

def stC (x : Meta.Mem) (m : Meta.Met) (bm : Nat) (rest : List Value) : List Value := .slice x.rA m.rows.length x.rc :: .slice x.oA m.own.length x.oc :: .slice x.uA m.used.length x.uc :: .slice x.iA m.ino.length x.ic :: .map (some bm) :: rest
/-- A block that may be written into. -/
def At (P : Nat → Prop) (A : Option Addr) : Prop := ∀ a, A = some a → P a.block
structure Vs (P : Nat → Prop) (w : World) (bv : Nat) (x : Meta.Mem) (m : Meta.Met) (bm : Nat) (rest : List Value) : Prop where
  box : Bk w bv 102 (stC x m bm rest)
  met : OwnM w 0 x m
  pv : P bv
  pr : At P x.rA
  po : At P x.oA
  pu : At P x.uA
  pi : At P x.iA
theorem own_any {w : World} {base e k n : Nat} {v : Value} {xs : List Value} (h : w.ownsRow base e k v n xs) : ∃ A c, v = .slice A n c ∧ At (base ≤ ·) A := by
  rcases h.2 with ⟨h1, h2⟩ | ⟨g, cap, cur, h1, hb, _⟩
  · have hz : n = 0 := by first | exact h2.1 | omega | skip
    subst h1
    exact ⟨none, 0, by rw [hz], fun a h => by cases h⟩
  · exact ⟨_, _, h1, fun a h => by cases h; exact hb⟩
/-- A block of another type keeps its row. -/
theorem own_other {w w' : World} {bv f : Nat} {ys : List Value} (hB : Bk w bv f ys) (hk : ∀ i, i < w.heap.size → i ≠ bv → w'.heap[i]? = w.heap[i]?) {base e k n : Nat} {v : Value} {xs : List Value} (h : w.ownsRow base e k v n xs) (he : e ≠ f) : w'.ownsRow base e k v n xs := by
  refine ⟨h.1, ?_⟩
  rcases h.2 with h2 | ⟨g, cap, cur, h1, hb, hc, h3⟩
  · exact .inl h2
  · refine .inr ⟨g, cap, cur, h1, hb, ?_, h3⟩
    rw [hk g (lt_heap hc) (fun hg => by
      subst hg
      have hB : w.heap[g]? = _ := hB
      rw [hc] at hB
      cases hB
      exact he rfl)]
    exact hc
theorem OwnM.other {w w' : World} {bv f : Nat} {ys : List Value} (hB : Bk w bv f ys) (hk : ∀ i, i < w.heap.size → i ≠ bv → w'.heap[i]? = w.heap[i]?) {base : Nat} {x : Meta.Mem} {m : Meta.Met} (h : OwnM w base x m) (he : f ≠ 68 ∧ f ≠ 3 ∧ f ≠ 5 ∧ f ≠ 40 := by decide) : OwnM w' base x m :=
  ⟨own_other hB hk h.rows he.1.symm, own_other hB hk h.own he.2.1.symm, own_other hB hk h.used he.2.2.1.symm, own_other hB hk h.ino he.2.2.2.symm⟩
section
variable {P Q : Nat → Prop} {w w' : World} {bv bm : Nat} {x : Meta.Mem} {m : Meta.Met} {rest : List Value}
theorem At.mono {A : Option Addr} (h : At P A) (hQ : ∀ i, P i → Q i) : At Q A := fun a ha => hQ _ (h a ha)
theorem Vs.below (h : Vs P w bv x m bm rest) (hb : Below w.heap.size w w') : Vs P w' bv x m bm rest := ⟨h.box.below hb h.box.lt, h.met.below hb, h.pv, h.pr, h.po, h.pu, h.pi⟩
theorem Vs.mono (h : Vs P w bv x m bm rest) (hQ : ∀ i, P i → Q i) : Vs Q w bv x m bm rest := ⟨h.box, h.met, hQ _ h.pv, h.pr.mono hQ, h.po.mono hQ, h.pu.mono hQ, h.pi.mono hQ⟩
theorem Vs.cells (h : Vs P w bv x m bm rest) : w.cell? ⟨bv, 0, none⟩ = some (.slice x.rA m.rows.length x.rc) ∧ w.cell? ⟨bv, 1, none⟩ = some (.slice x.oA m.own.length x.oc) ∧ w.cell? ⟨bv, 2, none⟩ = some (.slice x.uA m.used.length x.uc) ∧ w.cell? ⟨bv, 3, none⟩ = some (.slice x.iA m.ino.length x.ic) ∧ w.cell? ⟨bv, 4, none⟩ = some (.map (some bm)) :=
  ⟨h.box.cell 0, h.box.cell 1, h.box.cell 2, h.box.cell 3, h.box.cell 4⟩
theorem kept_set (w : World) (g i : Nat) (u : Value) : Kept (· = g) w (w.setCell ⟨g, i, none⟩ u) := Kept.of_grown (only_set (World.grownBy.refl w (some g)) i u) (fun k hk => by cases hk; rfl)
theorem set_other (w : World) (g q : Nat) (u : Value) : ∀ i, i < w.heap.size → i ≠ g → (w.setCell ⟨g, q, none⟩ u).heap[i]? = w.heap[i]? := fun i hi hg => (kept_set w g q u).block i hi hg
/-- Other bytes for the blocks that are in use. -/
theorem Vs.used (h : Vs P w bv x m bm rest) {l : List UInt8} {A : Option Addr} {c : Nat} (hw : w.ownsRow 0 5 1 (.slice A l.length c) l.length (bytesV l)) (hA : At Q A) (hP : ∀ i, P i → Q i) :
    Vs Q (w.setCell ⟨bv, 2, none⟩ (.slice A l.length c)) bv { x with uA := A, uc := c } { m with used := l } bm rest :=
  have hs := set_other w bv 2 (.slice A l.length c)
  have hm := OwnM.other h.box hs h.met
  ⟨h.box.set 2 _, ⟨hm.rows, hm.own, own_other h.box hs hw (by decide), hm.ino⟩, hP _ h.pv, h.pr.mono hP, h.po.mono hP, hA, h.pi.mono hP⟩
/-- Other rows. -/
theorem Vs.rows (h : Vs P w bv x m bm rest) {l : List Intern.Rw} {A : Option Addr} {c : Nat} (hw : w.ownsRow 0 68 2 (.slice A l.length c) l.length (Intern.rowsV l)) (hA : At Q A) (hP : ∀ i, P i → Q i) :
    Vs Q (w.setCell ⟨bv, 0, none⟩ (.slice A l.length c)) bv { x with rA := A, rc := c } { m with rows := l } bm rest :=
  have hs := set_other w bv 0 (.slice A l.length c)
  have hm := OwnM.other h.box hs h.met
  ⟨h.box.set 0 _, ⟨own_other h.box hs hw (by decide), hm.own, hm.used, hm.ino⟩, hP _ h.pv, hA, h.po.mono hP, h.pu.mono hP, h.pi.mono hP⟩
end
/-- A call that changes no more than a state may. -/
def Turns (P : Nat → Prop) (w : World) (bv : Nat) (m : Meta.Met) (bm : Nat) (rest : List Value) (w' : World) : Prop := ∃ x, Vs (fun i => P i ∨ w.heap.size ≤ i) w' bv x m bm rest
set_option maxRecDepth 100000 in
set_option maxHeartbeats 1600000 in
theorem use_ok {P : Nat → Prop} {w : World} {bv bm : Nat} {x : Meta.Mem} {m : Meta.Met} {rest : List Value} (h : Vs P w bv x m bm rest) (hl : m.used.length = 64) (a : Nat) (ha : a < 512) (on : Bool) :
    Calls Tryz.prog 85 #[.pointer (some ⟨bv, 0, none⟩), .int .i64 (a : Int), .bool on] w fun e w' => e = .returned (.tuple #[]) ∧ (∃ A c, Vs (fun i => P i ∨ w.heap.size ≤ i) w' bv { x with uA := A, uc := c } { m with used := Bits.wb m.used a on } bm rest) ∧ Kept (· = bv) w w' := by
  have HW : Hid (Calls Tryz.prog 144 #[.slice x.uA m.used.length x.uc, .int .i64 (a : Int), .bool on] w fun e w' => ∃ v, e = .returned (.tuple #[v, .int .i64 0]) ∧ Bits.Made w (Bits.wb m.used a on) v w') := Lib.hid (Bits.with_ok m.used x.uA _ x.uc a on w rfl h.met.lies.used (by omega) (by omega))
  have H := Lib.hid h
  obtain ⟨c0, c1, c2, c3, c4⟩ := h.cells
  clear h hl ha
  go_enter Tryz.func85, Tryz.ntmps85
  go_wp2_with (go_at_call 144; (with_reducible refine HW.out.mono ?_); rintro e w1 ⟨v, he, hm, hb⟩; obtain rfl := he; obtain ⟨A, c, hv, hA⟩ := own_any hm; subst hv; have HV := Lib.hid (H.out.below hb); have HM := Lib.hid hm; have HA := Lib.hid hA; have HB := Lib.hid hb; clear hm hb hA c0 c1 c2 c3 c4; obtain ⟨c0, c1, c2, c3, c4⟩ := HV.out.cells; have fz := HV.out.box.frozen 2)
  go_end0
  exact ⟨rfl, ⟨A, c, HV.out.used (own_mono HM.out (Nat.zero_le _)) (HA.out.mono fun _ h => .inr h) (fun _ h => .inl h)⟩, (Kept.of_below HB.out).trans (kept_set _ _ _ _) (fun _ h => .inl h)⟩
set_option maxRecDepth 100000 in
set_option maxHeartbeats 1600000 in
theorem retain_yes {P : Nat → Prop} {w : World} {bv bm : Nat} {x : Meta.Mem} {m : Meta.Met} {rest : List Value} (h : Vs P w bv x m bm rest) (a : Nat) (h0 : (Intern.retP m.rows a).err = 0) :
    Calls Tryz.prog 87 #[.pointer (some ⟨bv, 0, none⟩), .int .u16 (a : Int)] w fun e w' => e = .returned (.tuple #[.int .i64 ((Intern.retP m.rows a).at_ : Int), .int .i64 0]) ∧ (∃ A c, Vs (fun i => P i ∨ w.heap.size ≤ i) w' bv { x with rA := A, rc := c } { m with rows := (Intern.retP m.rows a).rows } bm rest) ∧ Kept (· = bv) w w' := by
  have HW : Hid (Calls Tryz.prog 145 #[.slice x.rA m.rows.length x.rc, .int .u16 (a : Int)] w fun e w' => ∃ v, e = .returned (.tuple #[v, .int .i64 ((Intern.retP m.rows a).at_ : Int), .int .i64 0]) ∧ Intern.Given w w' v (Intern.retP m.rows a).rows) := Lib.hid (by
    have := Intern.ret_any m.rows x.rA m.rows.length x.rc a w rfl h.met.lies.rows
    unfold Intern.Hands3 at this
    rwa [h0] at this)
  have H := Lib.hid h
  obtain ⟨c0, c1, c2, c3, c4⟩ := h.cells
  clear h h0
  generalize hr : Intern.retP m.rows a = r at *
  clear hr
  go_enter Tryz.func87, Tryz.ntmps87
  go_wp2_with (go_at_call 145; (with_reducible refine HW.out.mono ?_); rintro e w1 ⟨v, he, hm, hb⟩; obtain rfl := he; obtain ⟨A, c, hv, hA⟩ := own_any hm; subst hv; have HV := Lib.hid (H.out.below hb); have HM := Lib.hid hm; have HA := Lib.hid hA; have HB := Lib.hid hb; clear hm hb hA c0 c1 c2 c3 c4; obtain ⟨c0, c1, c2, c3, c4⟩ := HV.out.cells; have fz := HV.out.box.frozen 0)
  refine bodyPost_ret (v := .tuple #[.int .i64 (r.at_ : Int), .int .i64 0]) (by simp [results, Tryz.results87, go_sem]) rfl ?_
  exact ⟨rfl, ⟨A, c, HV.out.rows (own_mono HM.out (Nat.zero_le _)) (HA.out.mono fun _ h => .inr h) (fun _ h => .inl h)⟩, (Kept.of_below HB.out).trans (kept_set _ _ _ _) (fun _ h => .inl h)⟩
set_option maxRecDepth 100000 in
set_option maxHeartbeats 1600000 in
theorem retain_no {P : Nat → Prop} {w : World} {bv bm : Nat} {x : Meta.Mem} {m : Meta.Met} {rest : List Value} (h : Vs P w bv x m bm rest) (a : Nat) (h0 : (Intern.retP m.rows a).err ≠ 0) :
    Calls Tryz.prog 87 #[.pointer (some ⟨bv, 0, none⟩), .int .u16 (a : Int)] w fun e w' => e = .returned (.tuple #[.int .i64 0, .int .i64 ((Intern.retP m.rows a).err : Int)]) ∧ Below w.heap.size w w' := by
  have HW : Hid (Calls Tryz.prog 145 #[.slice x.rA m.rows.length x.rc, .int .u16 (a : Int)] w fun e w' => Intern.Hands3 w (Intern.retP m.rows a) e w') := Lib.hid (Intern.ret_any m.rows x.rA m.rows.length x.rc a w rfl h.met.lies.rows)
  have hne : ((Intern.retP m.rows a).err : Int) ≠ 0 := by omega
  obtain ⟨c0, c1, c2, c3, c4⟩ := h.cells
  clear h h0
  generalize hr : Intern.retP m.rows a = r at *
  clear hr
  go_enter Tryz.func87, Tryz.ntmps87
  go_wp2_with (go_at_call 145; (with_reducible refine HW.out.mono ?_); rintro e w1 ⟨v, he, hm, hb⟩; obtain rfl := he; have HB := Lib.hid hb; clear hm hb c0 c1 c2 c3 c4)
  refine bodyPost_ret (v := .tuple #[.int .i64 0, .int .i64 (r.err : Int)]) (by simp [results, Tryz.results87, go_sem]) rfl ?_
  exact ⟨rfl, HB.out⟩
set_option maxRecDepth 100000 in
set_option maxHeartbeats 1600000 in
theorem release_yes {P : Nat → Prop} {w : World} {bv bm : Nat} {x : Meta.Mem} {m : Meta.Met} {rest : List Value} (h : Vs P w bv x m bm rest) (a : Int) (h0 : (Intern.relP m.rows a).err = 0) :
    Calls Tryz.prog 91 #[.pointer (some ⟨bv, 0, none⟩), .int .i64 a] w fun e w' => e = .returned (.tuple #[]) ∧ (∃ A c, Vs (fun i => P i ∨ w.heap.size ≤ i) w' bv { x with rA := A, rc := c } { m with rows := (Intern.relP m.rows a).rows } bm rest) ∧ Kept (· = bv) w w' := by
  have HW : Hid (Calls Tryz.prog 149 #[.slice x.rA m.rows.length x.rc, .int .i64 a] w fun e w' => ∃ v, e = .returned (.tuple #[v, .int .i64 0]) ∧ Intern.Given w w' v (Intern.relP m.rows a).rows) := Lib.hid (by
    have := Intern.rel_any m.rows x.rA m.rows.length x.rc a w rfl h.met.lies.rows
    unfold Intern.Hands2 at this
    rwa [h0] at this)
  have H := Lib.hid h
  obtain ⟨c0, c1, c2, c3, c4⟩ := h.cells
  clear h h0
  generalize hr : Intern.relP m.rows a = r at *
  clear hr
  go_enter Tryz.func91, Tryz.ntmps91
  go_wp2_with (go_at_call 149; (with_reducible refine HW.out.mono ?_); rintro e w1 ⟨v, he, hm, hb⟩; obtain rfl := he; obtain ⟨A, c, hv, hA⟩ := own_any hm; subst hv; have HV := Lib.hid (H.out.below hb); have HM := Lib.hid hm; have HA := Lib.hid hA; have HB := Lib.hid hb; clear hm hb hA c0 c1 c2 c3 c4; obtain ⟨c0, c1, c2, c3, c4⟩ := HV.out.cells; have fz := HV.out.box.frozen 0)
  go_end0
  exact ⟨rfl, ⟨A, c, HV.out.rows (own_mono HM.out (Nat.zero_le _)) (HA.out.mono fun _ h => .inr h) (fun _ h => .inl h)⟩, (Kept.of_below HB.out).trans (kept_set _ _ _ _) (fun _ h => .inl h)⟩
end Go.Proofs.YtcjkbmmjpkghlaaGreat.Vol
