/-
  The document's examples.
-/
import Derived.Test.YtnebenkodpnofaaW4
namespace Go.Proofs.Ytnebenkodpnofaa
open Go.RowKit
attribute [local go_sem ↓] Go.wp_at_zero Go.wp_at_succ

section
variable {P : Program} {md : Region.Mode} {ops : Array Oper} {Q : Exit → Act → World → Prop} {S T : World → Prop}
theorem held_strong (h : ∀ w, T w → S w) : ∀ (fuel : Nat) (listed : Array Bool) (a : Act) (w : World), wpAnyH P md ops Q T fuel listed a w → wpAnyH P md ops Q S fuel listed a w
  | 0, _, _, _, k => k
  | fuel + 1, _, _, _, k => ⟨k.1, fun i hi => wpOp_mono (fun _ w' h' => ⟨h w' h'.1, held_strong h fuel _ _ _ h'.2⟩) (k.2 i hi)⟩
end

/-- The text of bytes that are all the same. -/
def strS (c : Nat) : ByteArray := ⟨(List.replicate 64 (UInt8.ofNat c)).toArray⟩
theorem same_bytes (c : Nat) (hc : c < 256) : same c = bytesV (List.replicate 64 (UInt8.ofNat c)) := by
  have h : (UInt8.ofNat c).toNat = c := by simp; omega
  simp only [same, bytesV, List.map_replicate, byteV, h]
theorem conv_any {w : World} {g : Nat} {e : TypeId} {c : Nat} (h : Bk w g e (same c)) (hc : c < 256) : (convert 29 9 (.slice (some ⟨g, 0, none⟩) 64 64)).run Try.prog w = .ok (.string (strS c)) w := by
  have h2 := h.rd 64 0
  rw [List.drop_zero, List.take_of_length_le (by rw [same_length]; exact Nat.le_refl _), same_bytes c hc] at h2
  exact run_str w 29 9 5 Try.underlying29 Try.underlying5 Try.underlying9 _ _ 64 64 _ (by simp) h2
theorem strS_same (c : Nat) : ((strS c).toList == (strS c).toList) = true := by simp
theorem patch_int (at_ x : Int) (c : Nat) (hx : x = (c : Int)) (hc : c < 256) (w : World) :
    Calls Try.prog 12 #[.int .i64 at_, .int .u8 x] w fun e w' => ∃ g, e = .returned (.agg #[.int .i64 at_, .slice (some ⟨g, 0, none⟩) 64 64, .int .u16 (c : Int)]) ∧ w.heap.size ≤ g ∧ Bk w' g 5 (same c) ∧ Below w.heap.size w w' := by
  subst hx
  exact patch_any at_ c hc w
theorem sector_int (x : Int) (c : Nat) (hx : x = (c : Int)) (w : World) :
    Calls Try.prog 18 #[.int .u8 x] w fun e w' => e = .returned (.slice (some ⟨w.heap.size, 0, none⟩) 64 64) ∧ Bk w' w.heap.size 5 (same c) ∧ Below w.heap.size w w' ∧ w'.heap.size = w.heap.size + 1 := by
  subst hx
  exact sector_any c w

/-- A disk of ours: all its blocks are new. -/
def Mine (B : Nat) (w : World) (b : Nat) (k : Dk Nat) (S : Nat → Prop) : Prop := IsDisk sec w S b k ∧ ∀ i, S i → B ≤ i
theorem Mine.turn {B : Nat} {w w' : World} {b : Nat} {k k' : Dk Nat} {S : Nat → Prop} (h : Mine B w b k S) (ht : Turned sec S w w' b k') (hB : B ≤ w.heap.size) : (∃ S', Mine B w' b k' S') ∧ Below B w w' := by
  obtain ⟨hK, S', hD, hS⟩ := ht
  refine ⟨⟨S', hD, fun i hi => ?_⟩, hK.below h.2 hB⟩
  rcases hS i hi with hs | hs
  · exact h.2 i hs
  · omega
theorem Mine.below {B : Nat} {w w' : World} {b : Nat} {k : Dk Nat} {S : Nat → Prop} (h : Mine B w b k S) (hb : Below w.heap.size w w') : Mine B w' b k S := ⟨h.1.below hb, h.2⟩
theorem Mine.new {B : Nat} {w : World} {b : Nat} {k : Dk Nat} {S : Nat → Prop} (h : Mine B w b k S) {g : Nat} (hg : w.heap.size ≤ g) : ¬ S g := fun hs => by
  have := h.1.lt hs
  omega

def k0 : Dk Nat := Dk.fresh 5 0
def k1 : Dk Nat := (k0.write 3 1).2
def k2 : Dk Nat := k1.flush
def k3 : Dk Nat := (k2.write 3 2).2
def k4 : Dk Nat := (k3.write 4 3).2
def k5 : Dk Nat := k4.crash 2

set_option maxRecDepth 100000 in
set_option maxHeartbeats 1600000 in
theorem shown_any (w : World) : Calls Try.prog 8 #[] w fun e w' => e = .returned (.bool true) ∧ Below w.heap.size w w' := by
  have L := Lib.hid (Below.refl w.heap.size w)
  go_enter Try.func8, Try.ntmps8
  go_wp2_with fail
  refine (new_any (f := sec) _ 5 (by decide) 0 sec_zero).mono ?_
  rintro e w1 ⟨b, S, rfl, hb, hD, hS⟩
  have D0 : Hid (Mine w.heap.size w1 b k0 S) := ⟨hD, hS⟩
  have L0 := Lib.hid hb
  clear L
  have L := L0
  clear L0 hb hD hS
  go_wp2_with fail
  refine (patch_int 3 1 1 rfl (by decide) _).mono ?_
  rintro e u1 ⟨g1, rfl, hg, hB, hb⟩
  have D1 := Lib.hid (D0.out.below hb)
  have N1 := Lib.hid (D0.out.new hg)
  have B1 := Lib.hid hB
  have L1 := Lib.hid (L.out.trans (hb.mono L.out.size))
  clear hg hB hb
  clear L
  have L := L1
  clear L1
  go_wp2_with fail
  refine (write_same _ _ _ k0 D1.out.1 3 1 g1 B1.out N1.out (by decide)).mono ?_
  rintro e v1 ⟨rfl, ht⟩
  obtain ⟨⟨S1, hM⟩, hb⟩ := D1.out.turn ht L.out.size
  have M1 := Lib.hid hM
  have L1 := Lib.hid (L.out.trans hb)
  clear ht hM hb
  clear L
  have L := L1
  clear L1
  have e1 : (k0.write 3 1).1 = 0 := by rfl
  rw [e1]
  clear e1
  go_wp2_with fail
  refine (flush_any sec_enc _ _ _ k1 M1.out.1 (by decide)).mono ?_
  rintro e v2 ⟨rfl, ht⟩
  obtain ⟨⟨S2, hM⟩, hb⟩ := M1.out.turn ht L.out.size
  have M2 := Lib.hid hM
  have L2 := Lib.hid (L.out.trans hb)
  clear ht hM hb
  clear L
  have L := L2
  clear L2
  have e1 : (if k1.off = true then (6 : Int) else 0) = 0 := by rfl
  rw [e1]
  clear e1
  go_wp2_with fail
  refine (patch_int 3 2 2 rfl (by decide) _).mono ?_
  rintro e u3 ⟨g3, rfl, hg, hB, hb⟩
  have D3 := Lib.hid (M2.out.below hb)
  have N3 := Lib.hid (M2.out.new hg)
  have B3 := Lib.hid hB
  have L3 := Lib.hid (L.out.trans (hb.mono L.out.size))
  clear hg hB hb
  clear L
  have L := L3
  clear L3
  go_wp2_with fail
  refine (write_same _ _ _ k2 D3.out.1 3 2 g3 B3.out N3.out (by decide)).mono ?_
  rintro e v3 ⟨rfl, ht⟩
  obtain ⟨⟨S3, hM⟩, hb⟩ := D3.out.turn ht L.out.size
  have M3 := Lib.hid hM
  have L3 := Lib.hid (L.out.trans hb)
  clear ht hM hb
  clear L
  have L := L3
  clear L3
  have e1 : (k2.write 3 2).1 = 0 := by rfl
  rw [e1]
  clear e1
  go_wp2_with fail
  refine (patch_int 4 3 3 rfl (by decide) _).mono ?_
  rintro e u4 ⟨g4, rfl, hg, hB, hb⟩
  have D4 := Lib.hid (M3.out.below hb)
  have N4 := Lib.hid (M3.out.new hg)
  have B4 := Lib.hid hB
  have L4 := Lib.hid (L.out.trans (hb.mono L.out.size))
  clear hg hB hb
  clear L
  have L := L4
  clear L4
  go_wp2_with fail
  refine (write_same _ _ _ k3 D4.out.1 4 3 g4 B4.out N4.out (by decide)).mono ?_
  rintro e v4 ⟨rfl, ht⟩
  obtain ⟨⟨S4, hM⟩, hb⟩ := D4.out.turn ht L.out.size
  have M4 := Lib.hid hM
  have L4 := Lib.hid (L.out.trans hb)
  clear ht hM hb
  clear L
  have L := L4
  clear L4
  have e1 : (k3.write 4 3).1 = 0 := by rfl
  rw [e1]
  clear e1
  go_wp2_with fail
  refine (crash_any sec_enc _ _ _ k4 M4.out.1 (by decide) 2 (by decide)).mono ?_
  rintro e v5 ⟨rfl, ht⟩
  obtain ⟨⟨S5, hM⟩, hb⟩ := M4.out.turn ht L.out.size
  have M5 := Lib.hid hM
  have L5 := Lib.hid (L.out.trans hb)
  clear ht hM hb
  clear L
  have L := L5
  clear L5
  go_wp2_with fail
  refine (read_any _ _ _ k5 M5.out.1 3 1 (same 1) (.int .u16 1) (by rfl) rfl (same_length 1) (same_one 1) (by rfl)).mono ?_
  rintro e x1 ⟨rfl, hB, hb⟩
  have M6 := Lib.hid (M5.out.below hb)
  obtain ⟨ga, hga⟩ : ∃ ga, ga = v5.heap.size := ⟨_, rfl⟩
  rw [← hga] at hB ⊢
  have RA := Lib.hid hB
  have L1 := Lib.hid (L.out.trans (hb.mono L.out.size))
  have Hga := Lib.hid hga
  clear hB hb hga
  clear L
  have L := L1
  clear L1
  go_wp2_with fail
  refine (read_any _ _ _ k5 M6.out.1 4 3 (same 3) (.int .u16 3) (by rfl) rfl (same_length 3) (same_one 3) (by rfl)).mono ?_
  rintro e x2 ⟨rfl, hB, hb⟩
  obtain ⟨gb, hgb⟩ : ∃ gb, gb = x1.heap.size := ⟨_, rfl⟩
  have RA2 := Lib.hid (RA.out.below hb RA.out.lt)
  rw [← hgb] at hB ⊢
  have RB := Lib.hid hB
  have L1 := Lib.hid (L.out.trans (hb.mono L.out.size))
  clear hB hb hgb
  clear L
  have L := L1
  clear L1 RA M6 M5 M4 M3 M2 M1
  go_wp2
  refine wp_region_held_drew (S := fun w' => Bk w' ga 61 (same 1) ∧ Bk w' gb 61 (same 3) ∧ Below w.heap.size w w') (by kernel_rfl) ⟨RA2.out, RB.out, L.out.drew⟩ (fun hHeld => ?_)
  refine wpAnyH_take (i := 0) (oi := _) (v := ?_) (by simp only [List.getElem?_toArray, List.getElem?_cons_zero]; rfl) (by kernel_rfl) (by kernel_rfl) (by kernel_rfl) (by exact fun _ _ _ h => h) (Or.inl ⟨by rfl, ?hya0⟩) (by assumption) ?rea0
  case hya0 => (rintro w ⟨hA1, hA2, hA3⟩; have e1 := conv_any hA1 (by decide); have e2 := conv_any hA2 (by decide); clear hA1 hA2 hA3; go_simp <;> with_reducible rfl)
  try simp only [Act.put, List.setIfInBounds_toArray, List.set_cons_zero, List.set_cons_succ]
  refine wpAnyH_take (i := 1) (oi := _) (v := ?_) (by simp only [List.getElem?_toArray, List.getElem?_cons_succ, List.getElem?_cons_zero]; rfl) (by kernel_rfl) (by kernel_rfl) (by kernel_rfl) (by exact fun _ _ _ h => h) (Or.inl ⟨by rfl, ?hya1⟩) (by assumption) ?rea1
  case hya1 => (rintro w ⟨hA1, hA2, hA3⟩; have e1 := conv_any hA1 (by decide); have e2 := conv_any hA2 (by decide); clear hA1 hA2 hA3; go_simp <;> with_reducible rfl)
  try simp only [Act.put, List.setIfInBounds_toArray, List.set_cons_zero, List.set_cons_succ]
  refine wpAnyH_ready (rs := [2]) (by kernel_rfl) (by simp) ?_
  refine AllReadyH.cons (o := _) (by simp only [List.getElem?_toArray, List.getElem?_cons_succ, List.getElem?_cons_zero]; rfl) (fun K hK => ?_) AllReadyH.nil
  go_simp
  refine (sector_int 1 1 rfl _).mono ?_
  rintro e y1 ⟨rfl, hB, hb, hz⟩
  have HS1 : Hid ((fun w' : World => Bk w' ga 61 (same 1) ∧ Bk w' gb 61 (same 3) ∧ Below w.heap.size w w') y1) := ⟨Bk.below (w := x2.drew) RA2.out hb RA2.out.lt, Bk.below (w := x2.drew) RB.out hb RB.out.lt, L.out.drew.trans (hb.mono L.out.size)⟩
  obtain ⟨gc, hgc⟩ : ∃ gc, gc = x2.drew.heap.size := ⟨_, rfl⟩
  rw [← hgc] at hB ⊢
  have RC := Lib.hid hB
  clear hB hb hz hgc
  go_simp
  refine hK.out _ _ HS1.out (fun hHeld2 => ?_)
  refine held_strong (T := fun u => Bk u gc 5 (same 1) ∧ (fun w' : World => Bk w' ga 61 (same 1) ∧ Bk w' gb 61 (same 3) ∧ Below w.heap.size w w') u) (by rintro _ ⟨_, h⟩; exact h) _ _ _ _ ?_
  clear hK K hHeld hHeld2
  refine wpAnyH_take (i := 3) (oi := _) (v := ?_) (by simp only [List.getElem?_toArray, List.getElem?_cons_succ, List.getElem?_cons_zero]; rfl) (by kernel_rfl) (by kernel_rfl) (by kernel_rfl) (by exact fun _ _ _ h => h) (Or.inl ⟨by rfl, ?hyb3⟩) (⟨RC.out, HS1.out⟩) ?reb3
  case hyb3 => (rintro w ⟨hA0, hA1, hA2, hA3⟩; have e0 := conv_any hA0 (by decide); have e1 := conv_any hA1 (by decide); have e2 := conv_any hA2 (by decide); have e3 := strS_same 1; clear hA0 hA1 hA2 hA3; go_simp <;> with_reducible rfl)
  try simp only [Act.put, List.setIfInBounds_toArray, List.set_cons_zero, List.set_cons_succ]
  refine wpAnyH_take (i := 4) (oi := _) (v := ?_) (by simp only [List.getElem?_toArray, List.getElem?_cons_succ, List.getElem?_cons_zero]; rfl) (by kernel_rfl) (by kernel_rfl) (by kernel_rfl) (by exact fun _ _ _ h => h) (Or.inl ⟨by rfl, ?hyb4⟩) (⟨RC.out, HS1.out⟩) ?reb4
  case hyb4 => (rintro w ⟨hA0, hA1, hA2, hA3⟩; have e0 := conv_any hA0 (by decide); have e1 := conv_any hA1 (by decide); have e2 := conv_any hA2 (by decide); have e3 := strS_same 1; clear hA0 hA1 hA2 hA3; go_simp <;> with_reducible rfl)
  try simp only [Act.put, List.setIfInBounds_toArray, List.set_cons_zero, List.set_cons_succ]
  refine wpAnyH_take (i := 5) (oi := _) (v := ?_) (by simp only [List.getElem?_toArray, List.getElem?_cons_succ, List.getElem?_cons_zero]; rfl) (by kernel_rfl) (by kernel_rfl) (by kernel_rfl) (by exact fun _ _ _ h => h) (Or.inl ⟨by rfl, ?hyb5⟩) (⟨RC.out, HS1.out⟩) ?reb5
  case hyb5 => (rintro w ⟨hA0, hA1, hA2, hA3⟩; have e0 := conv_any hA0 (by decide); have e1 := conv_any hA1 (by decide); have e2 := conv_any hA2 (by decide); have e3 := strS_same 1; clear hA0 hA1 hA2 hA3; go_simp <;> with_reducible rfl)
  try simp only [Act.put, List.setIfInBounds_toArray, List.set_cons_zero, List.set_cons_succ]
  refine wpAnyH_take (i := 6) (oi := _) (v := ?_) (by simp only [List.getElem?_toArray, List.getElem?_cons_succ, List.getElem?_cons_zero]; rfl) (by kernel_rfl) (by kernel_rfl) (by kernel_rfl) (by exact fun _ _ _ h => h) (Or.inl ⟨by rfl, ?hyb6⟩) (⟨RC.out, HS1.out⟩) ?reb6
  case hyb6 => (rintro w ⟨hA0, hA1, hA2, hA3⟩; have e0 := conv_any hA0 (by decide); have e1 := conv_any hA1 (by decide); have e2 := conv_any hA2 (by decide); have e3 := strS_same 1; clear hA0 hA1 hA2 hA3; go_simp <;> with_reducible rfl)
  try simp only [Act.put, List.setIfInBounds_toArray, List.set_cons_zero, List.set_cons_succ]
  refine wpAnyH_take (i := 7) (oi := _) (v := ?_) (by simp only [List.getElem?_toArray, List.getElem?_cons_succ, List.getElem?_cons_zero]; rfl) (by kernel_rfl) (by kernel_rfl) (by kernel_rfl) (by exact fun _ _ _ h => h) (Or.inl ⟨by rfl, ?hyb7⟩) (⟨RC.out, HS1.out⟩) ?reb7
  case hyb7 => (rintro w ⟨hA0, hA1, hA2, hA3⟩; have e0 := conv_any hA0 (by decide); have e1 := conv_any hA1 (by decide); have e2 := conv_any hA2 (by decide); have e3 := strS_same 1; clear hA0 hA1 hA2 hA3; go_simp <;> with_reducible rfl)
  try simp only [Act.put, List.setIfInBounds_toArray, List.set_cons_zero, List.set_cons_succ]
  refine wpAnyH_ready (rs := [8]) (by kernel_rfl) (by simp) ?_
  refine AllReadyH.cons (o := _) (by simp only [List.getElem?_toArray, List.getElem?_cons_succ, List.getElem?_cons_zero]; rfl) (fun K hK => ?_) AllReadyH.nil
  go_simp
  refine (sector_int 3 3 rfl _).mono ?_
  rintro e y2 ⟨rfl, hB, hb, hz⟩
  have HS2 : Hid (Bk y2 gc 5 (same 1) ∧ (fun w' : World => Bk w' ga 61 (same 1) ∧ Bk w' gb 61 (same 3) ∧ Below w.heap.size w w') y2) := ⟨RC.out.below hb RC.out.lt, HS1.out.1.below hb HS1.out.1.lt, HS1.out.2.1.below hb HS1.out.2.1.lt, HS1.out.2.2.trans (hb.mono HS1.out.2.2.size)⟩
  obtain ⟨gd, hgd⟩ : ∃ gd, gd = y1.heap.size := ⟨_, rfl⟩
  rw [← hgd] at hB ⊢
  have RD := Lib.hid hB
  clear hB hb hz hgd
  go_simp
  refine hK.out _ _ HS2.out (fun hHeld => ?_)
  refine held_strong (T := fun u => Bk u gd 5 (same 3) ∧ (fun w' : World => Bk w' ga 61 (same 1) ∧ Bk w' gb 61 (same 3) ∧ Below w.heap.size w w') u ∧ Bk u gc 5 (same 1)) (by rintro _ ⟨_, h, h2⟩; exact ⟨h2, h⟩) _ _ _ _ ?_
  clear hK K hHeld
  refine wpAnyH_take (i := 9) (oi := _) (v := ?_) (by simp only [List.getElem?_toArray, List.getElem?_cons_succ, List.getElem?_cons_zero]; rfl) (by kernel_rfl) (by kernel_rfl) (by kernel_rfl) (by exact fun _ _ _ h => h) (Or.inl ⟨by rfl, ?hyc9⟩) (⟨RD.out, HS2.out.2, HS2.out.1⟩) ?rec9
  case hyc9 => (rintro w ⟨hA0, ⟨hA1, hA2, hA3⟩, hA4⟩; have e0 := conv_any hA0 (by decide); have e1 := conv_any hA1 (by decide); have e2 := conv_any hA2 (by decide); have e3 := strS_same 3; clear hA0 hA1 hA2 hA3 hA4; go_simp <;> with_reducible rfl)
  try simp only [Act.put, List.setIfInBounds_toArray, List.set_cons_zero, List.set_cons_succ]
  refine wpAnyH_take (i := 10) (oi := _) (v := ?_) (by simp only [List.getElem?_toArray, List.getElem?_cons_succ, List.getElem?_cons_zero]; rfl) (by kernel_rfl) (by kernel_rfl) (by kernel_rfl) (by exact fun _ _ _ h => h) (Or.inl ⟨by rfl, ?hyc10⟩) (⟨RD.out, HS2.out.2, HS2.out.1⟩) ?rec10
  case hyc10 => (rintro w ⟨hA0, ⟨hA1, hA2, hA3⟩, hA4⟩; have e0 := conv_any hA0 (by decide); have e1 := conv_any hA1 (by decide); have e2 := conv_any hA2 (by decide); have e3 := strS_same 3; clear hA0 hA1 hA2 hA3 hA4; go_simp <;> with_reducible rfl)
  try simp only [Act.put, List.setIfInBounds_toArray, List.set_cons_zero, List.set_cons_succ]
  refine wpAnyH_take (i := 11) (oi := _) (v := ?_) (by simp only [List.getElem?_toArray, List.getElem?_cons_succ, List.getElem?_cons_zero]; rfl) (by kernel_rfl) (by kernel_rfl) (by kernel_rfl) (by exact fun _ _ _ h => h) (Or.inl ⟨by rfl, ?hyc11⟩) (⟨RD.out, HS2.out.2, HS2.out.1⟩) ?rec11
  case hyc11 => (rintro w ⟨hA0, ⟨hA1, hA2, hA3⟩, hA4⟩; have e0 := conv_any hA0 (by decide); have e1 := conv_any hA1 (by decide); have e2 := conv_any hA2 (by decide); have e3 := strS_same 3; clear hA0 hA1 hA2 hA3 hA4; go_simp <;> with_reducible rfl)
  try simp only [Act.put, List.setIfInBounds_toArray, List.set_cons_zero, List.set_cons_succ]
  refine wpAnyH_take (i := 12) (oi := _) (v := ?_) (by simp only [List.getElem?_toArray, List.getElem?_cons_succ, List.getElem?_cons_zero]; rfl) (by kernel_rfl) (by kernel_rfl) (by kernel_rfl) (by exact fun _ _ _ h => h) (Or.inl ⟨by rfl, ?hyc12⟩) (⟨RD.out, HS2.out.2, HS2.out.1⟩) ?rec12
  case hyc12 => (rintro w ⟨hA0, ⟨hA1, hA2, hA3⟩, hA4⟩; have e0 := conv_any hA0 (by decide); have e1 := conv_any hA1 (by decide); have e2 := conv_any hA2 (by decide); have e3 := strS_same 3; clear hA0 hA1 hA2 hA3 hA4; go_simp <;> with_reducible rfl)
  try simp only [Act.put, List.setIfInBounds_toArray, List.set_cons_zero]
  refine wpAnyH_done (by kernel_rfl) ?_ _
  go_wp2
  go_ret
  exact ⟨rfl, HS2.out.2.2.2⟩

end Go.Proofs.Ytnebenkodpnofaa
