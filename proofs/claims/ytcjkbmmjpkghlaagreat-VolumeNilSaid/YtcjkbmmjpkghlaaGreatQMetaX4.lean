/-
  Package meta: Copy.
-/
import Derived.Test.YtcjkbmmjpkghlaaGreatQMetaB
import Derived.Test.YtcjkbmmjpkghlaaGreatQMetaT
import Derived.Deep.RegionWith
namespace Go.Proofs.YtcjkbmmjpkghlaaGreat.Meta
open Go.Proofs.YtcjkbmmjpkghlaaGreat
open Go.RowKit

/-- What Copy hands back. -/
def HandsC (w : World) (m : Met) (e : Ending) (w' : World) : Prop := ∃ y : Mem, e = .returned (y.v m) ∧ OwnM w' w.heap.size y m ∧ Below w.heap.size w w'
theorem copy_end {w W : World} {n0 n1 n2 n3 g0 g1 g2 g3 : Nat} {tm : Array Value} {df : List Deferred} {m : Met} {x0 x1 x2 x3 : List Value} (ho : ∀ n ∈ m.ino, Inode.Oki n) (l0 : m.rows.length = n0) (l1 : m.own.length = n1) (l2 : m.used.length = n2) (l3 : m.ino.length = n3)
    (hs : n0 ≤ 65536 ∧ n1 ≤ 65536 ∧ n2 ≤ 65536 ∧ n3 ≤ 65536) (e0 : Intern.rowsV m.rows = x0) (e1 : Inode.intsV m.own = x1) (e2 : bytesV m.used = x2) (e3 : inosV m.ino = x3) (hd : df = [])
    (hr : (results Tryz.f77 tm).run Tryz.prog W = .ok (.agg #[.slice (some ⟨g0, 0, none⟩) n0 n0, .slice (some ⟨g1, 0, none⟩) n1 n1, .slice (some ⟨g2, 0, none⟩) n2 n2, .slice (some ⟨g3, 0, none⟩) n3 n3]) W)
    (b0 : Bk W g0 68 x0) (b1 : Bk W g1 3 x1) (b2 : Bk W g2 5 x2) (b3 : Bk W g3 40 x3)
    (k0 : w.heap.size ≤ g0) (k1 : w.heap.size ≤ g1) (k2 : w.heap.size ≤ g2) (k3 : w.heap.size ≤ g3) (hb : Below w.heap.size w W) :
    bodyPost Tryz.prog Tryz.f77 (fun e w' => HandsC w m e w') .ret { tmps := tm, defers := df } W := by
  subst l0 l1 l2 l3 e0 e1 e2 e3
  refine bodyPost_ret hr hd ⟨⟨some ⟨g0, 0, none⟩, m.rows.length, some ⟨g1, 0, none⟩, m.own.length, some ⟨g2, 0, none⟩, m.used.length, some ⟨g3, 0, none⟩, m.ino.length⟩, rfl, ⟨?_, ?_, ?_, ?_⟩, hb⟩
  · exact bk_own b0 k0 (by simp [Intern.length_rowsV]) rfl (by show m.rows.length ≤ maxLen; unfold maxLen; omega)
  · exact bk_own b1 k1 (by simp [Inode.length_intsV]) rfl (by show m.own.length ≤ maxLen; unfold maxLen; omega)
  · exact bk_own b2 k2 (by simp [length_bytesV]) rfl (by show m.used.length ≤ maxLen; unfold maxLen; omega)
  · exact bk_own b3 k3 (by rw [length_inosV ho]) rfl (by show m.ino.length ≤ maxLen; unfold maxLen; omega)
theorem put4_far {V : World} {b g : Nat} {e : TypeId} {xs : List Value} (h : Bk V g e xs) (hne : g ≠ b) (a0 a1 a2 a3 : Value) : Bk (put4 V b a0 a1 a2 a3) g e xs := bk_set (bk_set (bk_set (bk_set h _ _ hne) _ _ hne) _ _ hne) _ _ hne
theorem inosV_one {l : List Inode.Ino} : ∀ u ∈ inosV l, u.oneCell' = true := by
  intro u hu
  simp only [inosV, List.mem_flatMap] at hu
  obtain ⟨n, _, hn⟩ := hu
  exact cellsI_one n u hn
set_option maxRecDepth 100000 in
set_option maxHeartbeats 12800000 in
theorem copy_in (m : Met) (ho : Okm m) (rA oA uA iA : Option Addr) (rn rc on_ oc un uc in_ ic : Nat) (w : World) (hrn : m.rows.length = rn) (hon : m.own.length = on_) (hun : m.used.length = un) (hin : m.ino.length = in_)
    (hl : Lies w w.heap.size ⟨rA, rc, oA, oc, uA, uc, iA, ic⟩ m) (hs : rn ≤ 65536 ∧ on_ ≤ 65536 ∧ un ≤ 65536 ∧ in_ ≤ 65536) :
    Calls Tryz.prog 77 #[.agg #[.slice rA rn rc, .slice oA on_ oc, .slice uA un uc, .slice iA in_ ic]] w fun e w' => HandsC w m e w' := by
  have HR : Hid (∀ u : World, Below w.heap.size w u → Calls Tryz.prog 137 #[.slice rA rn rc] u fun e w' => e = .returned (.slice (some ⟨u.heap.size, 0, none⟩) rn rn) ∧ w' = u.alloc (.cells (Intern.rowsV m.rows).toArray 68)) := Lib.hid (fun u hu => copied_row _ rA rn rc u (by rw [Intern.length_rowsV, hrn]) (Intern.rowsV_one _) ((hl.rows.below hu).more hu.size) hs.1)
  have HO : Hid (∀ u : World, Below w.heap.size w u → Calls Tryz.prog 138 #[.slice oA on_ oc] u fun e w' => e = .returned (.slice (some ⟨u.heap.size, 0, none⟩) on_ on_) ∧ w' = u.alloc (.cells (Inode.intsV m.own).toArray 3)) := Lib.hid (fun u hu => copied_int _ oA on_ oc u (by rw [Inode.length_intsV, hon, Nat.mul_one]) (Inode.intsV_one _) ((hl.own.below hu).more hu.size) hs.2.1)
  have HU : Hid (∀ u : World, Below w.heap.size w u → Calls Tryz.prog 106 #[.slice uA un uc] u fun e w' => e = .returned (.slice (some ⟨u.heap.size, 0, none⟩) un un) ∧ w' = u.alloc (.cells (bytesV m.used).toArray 5)) := Lib.hid (fun u hu => copied_u8 _ uA un uc u (by rw [length_bytesV, hun, Nat.mul_one]) (bytesV_one _) ((hl.used.below hu).more hu.size) hs.2.2.1)
  have HI : Hid (∀ u : World, Below w.heap.size w u → Calls Tryz.prog 139 #[.slice iA in_ ic] u fun e w' => e = .returned (.slice (some ⟨u.heap.size, 0, none⟩) in_ in_) ∧ w' = u.alloc (.cells (inosV m.ino).toArray 40)) := Lib.hid (fun u hu => copied_ino _ iA in_ ic u (by rw [length_inosV ho.ino, hin]) inosV_one ((hl.ino.below hu).more hu.size) hs.2.2.2)
  have HS := Lib.hid hs
  have HX := Lib.hid ho.ino
  clear hl hs ho
  obtain ⟨x0, hB0⟩ : ∃ x0, Intern.rowsV m.rows = x0 := ⟨_, rfl⟩
  obtain ⟨x1, hB1⟩ : ∃ x1, Inode.intsV m.own = x1 := ⟨_, rfl⟩
  obtain ⟨x2, hB2⟩ : ∃ x2, bytesV m.used = x2 := ⟨_, rfl⟩
  obtain ⟨x3, hB3⟩ : ∃ x3, inosV m.ino = x3 := ⟨_, rfl⟩
  rw [hB0] at HR
  rw [hB1] at HO
  rw [hB2] at HU
  rw [hB3] at HI
  have HB0 := Lib.hid hB0
  have HB1 := Lib.hid hB1
  have HB2 := Lib.hid hB2
  have HB3 := Lib.hid hB3
  have HN0 := Lib.hid hrn
  have HN1 := Lib.hid hon
  have HN2 := Lib.hid hun
  have HN3 := Lib.hid hin
  clear hB0 hB1 hB2 hB3 hrn hon hun hin
  obtain ⟨W, hW⟩ : ∃ W, W = (w.alloc (.cells #[.slice rA rn rc, .slice oA on_ oc, .slice uA un uc, .slice iA in_ ic] 60)).alloc (.cells #[.slice none 0 0, .slice none 0 0, .slice none 0 0, .slice none 0 0] 60) := ⟨_, rfl⟩
  have hbW : Below w.heap.size w W := by rw [hW]; exact (Below.refl _ _).alloc (Nat.le_refl _) _ |>.alloc (by simp) _
  have hM : Bk W w.heap.size 60 [.slice rA rn rc, .slice oA on_ oc, .slice uA un uc, .slice iA in_ ic] := by rw [hW]; exact (Bk.new w 60 [.slice rA rn rc, .slice oA on_ oc, .slice uA un uc, .slice iA in_ ic]).below ((Below.refl _ _).alloc (Nat.le_refl _) _) (by simp)
  have hZ : Bk W (w.heap.size + 1) 60 [.slice none 0 0, .slice none 0 0, .slice none 0 0, .slice none 0 0] := by
    rw [hW]
    have := Bk.new (w.alloc (.cells #[.slice rA rn rc, .slice oA on_ oc, .slice uA un uc, .slice iA in_ ic] 60)) 60 [.slice none 0 0, .slice none 0 0, .slice none 0 0, .slice none 0 0]
    simpa using this
  have HM := Lib.hid hM
  have HZ := Lib.hid hZ
  have HB := Lib.hid hbW
  have HW := Lib.hid hW
  clear hM hZ hbW hW
  go_enter Tryz.func77, Tryz.ntmps77
  go_upto_region 1 with fail
  rw [← HW.out]
  have hS0 : Below w.heap.size w W.drew ∧ Bk W.drew w.heap.size 60 [.slice rA rn rc, .slice oA on_ oc, .slice uA un uc, .slice iA in_ ic] := ⟨HB.out.drew, HM.out⟩
  refine wp_region_held_drew (S := fun u => Below w.heap.size w u ∧ Bk u w.heap.size 60 [.slice rA rn rc, .slice oA on_ oc, .slice uA un uc, .slice iA in_ ic]) (by kernel_rfl) hS0 (fun hHeld => ?_)
  refine wpAnyH_take (i := 0) (oi := _) (v := ?_) (by simp only [List.getElem?_toArray, List.getElem?_cons_zero]; rfl) (by kernel_rfl) (by kernel_rfl) (by kernel_rfl) (by exact fun _ _ _ h => h) (Or.inl ⟨by rfl, ?hya0⟩) (by exact hHeld) ?rea0
  case hya0 => (intro u hu; obtain ⟨m0, m1, m2, m3⟩ := four_cells hu.2; clear hu; go_simp <;> with_reducible rfl)
  try simp only [Act.put, List.setIfInBounds_toArray, List.set_cons_zero, List.set_cons_succ]
  refine wpAnyH_take (i := 1) (oi := _) (v := ?_) (by simp only [List.getElem?_toArray, List.getElem?_cons_succ, List.getElem?_cons_zero]; rfl) (by kernel_rfl) (by kernel_rfl) (by kernel_rfl) (by exact fun _ _ _ h => h) (Or.inl ⟨by rfl, ?hya1⟩) (by exact hHeld) ?rea1
  case hya1 => (intro u hu; obtain ⟨m0, m1, m2, m3⟩ := four_cells hu.2; clear hu; go_simp <;> with_reducible rfl)
  try simp only [Act.put, List.setIfInBounds_toArray, List.set_cons_zero, List.set_cons_succ]
  refine wpAnyH_take (i := 3) (oi := _) (v := ?_) (by simp only [List.getElem?_toArray, List.getElem?_cons_succ, List.getElem?_cons_zero]; rfl) (by kernel_rfl) (by kernel_rfl) (by kernel_rfl) (by exact fun _ _ _ h => h) (Or.inl ⟨by rfl, ?hya3⟩) (by exact hHeld) ?rea3
  case hya3 => (intro u hu; obtain ⟨m0, m1, m2, m3⟩ := four_cells hu.2; clear hu; go_simp <;> with_reducible rfl)
  try simp only [Act.put, List.setIfInBounds_toArray, List.set_cons_zero, List.set_cons_succ]
  refine wpAnyH_take (i := 4) (oi := _) (v := ?_) (by simp only [List.getElem?_toArray, List.getElem?_cons_succ, List.getElem?_cons_zero]; rfl) (by kernel_rfl) (by kernel_rfl) (by kernel_rfl) (by exact fun _ _ _ h => h) (Or.inl ⟨by rfl, ?hya4⟩) (by exact hHeld) ?rea4
  case hya4 => (intro u hu; obtain ⟨m0, m1, m2, m3⟩ := four_cells hu.2; clear hu; go_simp <;> with_reducible rfl)
  try simp only [Act.put, List.setIfInBounds_toArray, List.set_cons_zero, List.set_cons_succ]
  refine wpAnyH_take (i := 6) (oi := _) (v := ?_) (by simp only [List.getElem?_toArray, List.getElem?_cons_succ, List.getElem?_cons_zero]; rfl) (by kernel_rfl) (by kernel_rfl) (by kernel_rfl) (by exact fun _ _ _ h => h) (Or.inl ⟨by rfl, ?hya6⟩) (by exact hHeld) ?rea6
  case hya6 => (intro u hu; obtain ⟨m0, m1, m2, m3⟩ := four_cells hu.2; clear hu; go_simp <;> with_reducible rfl)
  try simp only [Act.put, List.setIfInBounds_toArray, List.set_cons_zero, List.set_cons_succ]
  refine wpAnyH_take (i := 7) (oi := _) (v := ?_) (by simp only [List.getElem?_toArray, List.getElem?_cons_succ, List.getElem?_cons_zero]; rfl) (by kernel_rfl) (by kernel_rfl) (by kernel_rfl) (by exact fun _ _ _ h => h) (Or.inl ⟨by rfl, ?hya7⟩) (by exact hHeld) ?rea7
  case hya7 => (intro u hu; obtain ⟨m0, m1, m2, m3⟩ := four_cells hu.2; clear hu; go_simp <;> with_reducible rfl)
  try simp only [Act.put, List.setIfInBounds_toArray, List.set_cons_zero, List.set_cons_succ]
  refine wpAnyH_take (i := 9) (oi := _) (v := ?_) (by simp only [List.getElem?_toArray, List.getElem?_cons_succ, List.getElem?_cons_zero]; rfl) (by kernel_rfl) (by kernel_rfl) (by kernel_rfl) (by exact fun _ _ _ h => h) (Or.inl ⟨by rfl, ?hya9⟩) (by exact hHeld) ?rea9
  case hya9 => (intro u hu; obtain ⟨m0, m1, m2, m3⟩ := four_cells hu.2; clear hu; go_simp <;> with_reducible rfl)
  try simp only [Act.put, List.setIfInBounds_toArray, List.set_cons_zero, List.set_cons_succ]
  refine wpAnyH_take (i := 10) (oi := _) (v := ?_) (by simp only [List.getElem?_toArray, List.getElem?_cons_succ, List.getElem?_cons_zero]; rfl) (by kernel_rfl) (by kernel_rfl) (by kernel_rfl) (by exact fun _ _ _ h => h) (Or.inl ⟨by rfl, ?hya10⟩) (by exact hHeld) ?rea10
  case hya10 => (intro u hu; obtain ⟨m0, m1, m2, m3⟩ := four_cells hu.2; clear hu; go_simp <;> with_reducible rfl)
  try simp only [Act.put, List.setIfInBounds_toArray, List.set_cons_zero, List.set_cons_succ]
  refine wpAnyH_ready (rs := [2]) (by kernel_rfl) (by simp) ?_
  refine AllReadyH.cons (o := _) (by simp only [List.getElem?_toArray, List.getElem?_cons_succ, List.getElem?_cons_zero]; rfl) (fun K hK => ?_) AllReadyH.nil
  go_simp
  (with_reducible refine (HR.out _ hHeld.1).mono ?_)
  rintro e u0 ⟨he, hw⟩; obtain rfl := he
  have HZ0 : Hid (w.heap.size + 1 < W.heap.size) := Lib.hid HZ.out.lt
  have hH0 : Below w.heap.size w u0 ∧ Bk u0 w.heap.size 60 [.slice rA rn rc, .slice oA on_ oc, .slice uA un uc, .slice iA in_ ic] := by rw [hw]; exact ⟨hHeld.1.alloc hHeld.1.size _, bk_alloc hHeld.2 _⟩
  replace HZ := Lib.hid (show Bk u0 (w.heap.size + 1) 60 _ by rw [hw]; exact bk_alloc HZ.out _)
  have K0 : Hid (Bk u0 W.drew.heap.size 68 x0) := Lib.hid (by rw [hw]; exact bk_here _ rfl)
  have L0 : Hid (w.heap.size ≤ W.drew.heap.size) := Lib.hid (by have := hHeld.1.size; omega)
  clear hw
  go_simp
  refine hK.out _ _ hH0 (fun hHeld2 => ?_)
  clear hK K hHeld
  have hHeld := hHeld2
  clear hHeld2 hH0
  try simp only [Act.put, List.setIfInBounds_toArray, List.set_cons_zero, List.set_cons_succ]
  refine wpAnyH_ready (rs := [5]) (by kernel_rfl) (by simp) ?_
  refine AllReadyH.cons (o := _) (by simp only [List.getElem?_toArray, List.getElem?_cons_succ, List.getElem?_cons_zero]; rfl) (fun K hK => ?_) AllReadyH.nil
  go_simp
  (with_reducible refine (HO.out _ hHeld.1).mono ?_)
  rintro e u1 ⟨he, hw⟩; obtain rfl := he
  have HZ1 : Hid (w.heap.size + 1 < u0.heap.size) := Lib.hid HZ.out.lt
  have hH1 : Below w.heap.size w u1 ∧ Bk u1 w.heap.size 60 [.slice rA rn rc, .slice oA on_ oc, .slice uA un uc, .slice iA in_ ic] := by rw [hw]; exact ⟨hHeld.1.alloc hHeld.1.size _, bk_alloc hHeld.2 _⟩
  replace HZ := Lib.hid (show Bk u1 (w.heap.size + 1) 60 _ by rw [hw]; exact bk_alloc HZ.out _)
  have K1 : Hid (Bk u1 u0.heap.size 3 x1) := Lib.hid (by rw [hw]; exact bk_here _ rfl)
  replace K0 := Lib.hid (show Bk u1 _ _ _ by rw [hw]; exact bk_alloc K0.out _)
  have L1 : Hid (w.heap.size ≤ u0.heap.size) := Lib.hid (by have := hHeld.1.size; omega)
  clear hw
  go_simp
  refine hK.out _ _ hH1 (fun hHeld2 => ?_)
  clear hK K hHeld
  have hHeld := hHeld2
  clear hHeld2 hH1
  try simp only [Act.put, List.setIfInBounds_toArray, List.set_cons_zero, List.set_cons_succ]
  refine wpAnyH_ready (rs := [8]) (by kernel_rfl) (by simp) ?_
  refine AllReadyH.cons (o := _) (by simp only [List.getElem?_toArray, List.getElem?_cons_succ, List.getElem?_cons_zero]; rfl) (fun K hK => ?_) AllReadyH.nil
  go_simp
  (with_reducible refine (HU.out _ hHeld.1).mono ?_)
  rintro e u2 ⟨he, hw⟩; obtain rfl := he
  have HZ2 : Hid (w.heap.size + 1 < u1.heap.size) := Lib.hid HZ.out.lt
  have hH2 : Below w.heap.size w u2 ∧ Bk u2 w.heap.size 60 [.slice rA rn rc, .slice oA on_ oc, .slice uA un uc, .slice iA in_ ic] := by rw [hw]; exact ⟨hHeld.1.alloc hHeld.1.size _, bk_alloc hHeld.2 _⟩
  replace HZ := Lib.hid (show Bk u2 (w.heap.size + 1) 60 _ by rw [hw]; exact bk_alloc HZ.out _)
  have K2 : Hid (Bk u2 u1.heap.size 5 x2) := Lib.hid (by rw [hw]; exact bk_here _ rfl)
  replace K0 := Lib.hid (show Bk u2 _ _ _ by rw [hw]; exact bk_alloc K0.out _)
  replace K1 := Lib.hid (show Bk u2 _ _ _ by rw [hw]; exact bk_alloc K1.out _)
  have L2 : Hid (w.heap.size ≤ u1.heap.size) := Lib.hid (by have := hHeld.1.size; omega)
  clear hw
  go_simp
  refine hK.out _ _ hH2 (fun hHeld2 => ?_)
  clear hK K hHeld
  have hHeld := hHeld2
  clear hHeld2 hH2
  try simp only [Act.put, List.setIfInBounds_toArray, List.set_cons_zero, List.set_cons_succ]
  refine wpAnyH_ready (rs := [11]) (by kernel_rfl) (by simp) ?_
  refine AllReadyH.cons (o := _) (by simp only [List.getElem?_toArray, List.getElem?_cons_succ, List.getElem?_cons_zero]; rfl) (fun K hK => ?_) AllReadyH.nil
  go_simp
  (with_reducible refine (HI.out _ hHeld.1).mono ?_)
  rintro e u3 ⟨he, hw⟩; obtain rfl := he
  have HZ3 : Hid (w.heap.size + 1 < u2.heap.size) := Lib.hid HZ.out.lt
  have hH3 : Below w.heap.size w u3 ∧ Bk u3 w.heap.size 60 [.slice rA rn rc, .slice oA on_ oc, .slice uA un uc, .slice iA in_ ic] := by rw [hw]; exact ⟨hHeld.1.alloc hHeld.1.size _, bk_alloc hHeld.2 _⟩
  replace HZ := Lib.hid (show Bk u3 (w.heap.size + 1) 60 _ by rw [hw]; exact bk_alloc HZ.out _)
  have K3 : Hid (Bk u3 u2.heap.size 40 x3) := Lib.hid (by rw [hw]; exact bk_here _ rfl)
  replace K0 := Lib.hid (show Bk u3 _ _ _ by rw [hw]; exact bk_alloc K0.out _)
  replace K1 := Lib.hid (show Bk u3 _ _ _ by rw [hw]; exact bk_alloc K1.out _)
  replace K2 := Lib.hid (show Bk u3 _ _ _ by rw [hw]; exact bk_alloc K2.out _)
  have L3 : Hid (w.heap.size ≤ u2.heap.size) := Lib.hid (by have := hHeld.1.size; omega)
  clear hw
  go_simp
  refine hK.out _ _ hH3 (fun hHeld2 => ?_)
  clear hK K hHeld
  have hHeld := hHeld2
  clear hHeld2 hH3
  try simp only [Act.put, List.setIfInBounds_toArray, List.set_cons_zero, List.set_cons_succ]
  refine wpAnyH_take (i := 12) (oi := _) (v := ?_) (by simp only [List.getElem?_toArray, List.getElem?_cons_succ, List.getElem?_cons_zero]; rfl) (by kernel_rfl) (by kernel_rfl) (by kernel_rfl) (by exact fun _ _ _ h => h) (Or.inl ⟨by rfl, ?hya12⟩) (by exact hHeld) ?rea12
  case hya12 => (intro u hu; obtain ⟨m0, m1, m2, m3⟩ := four_cells hu.2; clear hu; go_simp <;> with_reducible rfl)
  try simp only [Act.put, List.setIfInBounds_toArray, List.set_cons_zero, List.set_cons_succ]
  obtain ⟨r0, r1, r2, r3⟩ := four_cells HZ.out
  obtain ⟨f0, f1, f2, f3⟩ := four_frozen HZ.out
  have hlz := HZ.out.lt
  have hZ0 : W.heap.size ≠ w.heap.size + 1 := by have := HZ0.out; omega
  have hZ1 : u0.heap.size ≠ w.heap.size + 1 := by have := HZ1.out; omega
  have hZ2 : u1.heap.size ≠ w.heap.size + 1 := by have := HZ2.out; omega
  have hZ3 : u2.heap.size ≠ w.heap.size + 1 := by have := HZ3.out; omega
  refine wpAnyH_ready (rs := [13]) (by kernel_rfl) (by simp) ?_
  refine AllReadyH.cons (o := _) (by simp only [List.getElem?_toArray, List.getElem?_cons_succ, List.getElem?_cons_zero]; rfl) (fun K hK => ?_) AllReadyH.nil
  go_simp
  have hH4 : Below w.heap.size w (put4 u3 (w.heap.size + 1) (.slice (some ⟨W.heap.size, 0, none⟩) rn rn) (.slice (some ⟨u0.heap.size, 0, none⟩) on_ on_) (.slice (some ⟨u1.heap.size, 0, none⟩) un un) (.slice (some ⟨u2.heap.size, 0, none⟩) in_ in_)) ∧ Bk (put4 u3 (w.heap.size + 1) (.slice (some ⟨W.heap.size, 0, none⟩) rn rn) (.slice (some ⟨u0.heap.size, 0, none⟩) on_ on_) (.slice (some ⟨u1.heap.size, 0, none⟩) un un) (.slice (some ⟨u2.heap.size, 0, none⟩) in_ in_)) w.heap.size 60 [.slice rA rn rc, .slice oA on_ oc, .slice uA un uc, .slice iA in_ ic] := ⟨put4_below hHeld.1 (by omega) _ _ _ _, put4_far hHeld.2 (by omega) _ _ _ _⟩
  have hZ4 := put4_bk (a0 := (.slice (some ⟨W.heap.size, 0, none⟩) rn rn)) (a1 := (.slice (some ⟨u0.heap.size, 0, none⟩) on_ on_)) (a2 := (.slice (some ⟨u1.heap.size, 0, none⟩) un un)) (a3 := (.slice (some ⟨u2.heap.size, 0, none⟩) in_ in_)) HZ.out
  have k0 := put4_far K0.out hZ0 (.slice (some ⟨W.heap.size, 0, none⟩) rn rn) (.slice (some ⟨u0.heap.size, 0, none⟩) on_ on_) (.slice (some ⟨u1.heap.size, 0, none⟩) un un) (.slice (some ⟨u2.heap.size, 0, none⟩) in_ in_)
  have k1 := put4_far K1.out hZ1 (.slice (some ⟨W.heap.size, 0, none⟩) rn rn) (.slice (some ⟨u0.heap.size, 0, none⟩) on_ on_) (.slice (some ⟨u1.heap.size, 0, none⟩) un un) (.slice (some ⟨u2.heap.size, 0, none⟩) in_ in_)
  have k2 := put4_far K2.out hZ2 (.slice (some ⟨W.heap.size, 0, none⟩) rn rn) (.slice (some ⟨u0.heap.size, 0, none⟩) on_ on_) (.slice (some ⟨u1.heap.size, 0, none⟩) un un) (.slice (some ⟨u2.heap.size, 0, none⟩) in_ in_)
  have k3 := put4_far K3.out hZ3 (.slice (some ⟨W.heap.size, 0, none⟩) rn rn) (.slice (some ⟨u0.heap.size, 0, none⟩) on_ on_) (.slice (some ⟨u1.heap.size, 0, none⟩) un un) (.slice (some ⟨u2.heap.size, 0, none⟩) in_ in_)
  refine hK.out _ _ hH4 (fun _ => ?_)
  clear hK K
  refine wpAnyH_done (by kernel_rfl) ?_ _
  obtain ⟨z0, z1, z2, z3⟩ := four_cells hZ4
  change Exit.then _ _ _ _ (put4 u3 (w.heap.size + 1) (.slice (some ⟨W.heap.size, 0, none⟩) rn rn) (.slice (some ⟨u0.heap.size, 0, none⟩) on_ on_) (.slice (some ⟨u1.heap.size, 0, none⟩) un un) (.slice (some ⟨u2.heap.size, 0, none⟩) in_ in_))
  have HH := Lib.hid hH4.1
  clear hH4 hHeld
  generalize put4 u3 (w.heap.size + 1) (.slice (some ⟨W.heap.size, 0, none⟩) rn rn) (.slice (some ⟨u0.heap.size, 0, none⟩) on_ on_) (.slice (some ⟨u1.heap.size, 0, none⟩) un un) (.slice (some ⟨u2.heap.size, 0, none⟩) in_ in_) = U at *
  clear hZ4 r0 r1 r2 r3 f0 f1 f2 f3 hlz
  have K0 := Lib.hid k0
  have K1 := Lib.hid k1
  have K2 := Lib.hid k2
  have K3 := Lib.hid k3
  clear k0 k1 k2 k3 hZ0 hZ1 hZ2 hZ3
  go_wp2
  refine copy_end HX.out HN0.out HN1.out HN2.out HN3.out HS.out HB0.out HB1.out HB2.out HB3.out rfl ?_ K0.out K1.out K2.out K3.out L0.out L1.out L2.out L3.out HH.out
  simp [results, Tryz.results77, go_sem, z0, z1, z2, z3]
theorem copy_any (m : Met) (ho : Okm m) (x : Mem) (w : World) (hl : Lies w w.heap.size x m) (hs : m.rows.length ≤ 65536 ∧ m.own.length ≤ 65536 ∧ m.used.length ≤ 65536 ∧ m.ino.length ≤ 65536) :
    Calls Tryz.prog 77 #[x.v m] w fun e w' => HandsC w m e w' :=
  copy_in m ho x.rA x.oA x.uA x.iA _ x.rc _ x.oc _ x.uc _ x.ic w rfl rfl rfl rfl hl hs
end Go.Proofs.YtcjkbmmjpkghlaaGreat.Meta
