/-
  The document's examples.
-/
import Derived.Test.YtnmfpgeojggjbaaG
namespace Go.Proofs.Ytnmfpgeojggjbaa
open Go.RowKit
attribute [local go_sem ↓] Go.wp_at_zero Go.wp_at_succ

/-- A cache and its disk that are ours: all their blocks are new. -/
def Ours (B : Nat) (w : World) (b bd room : Nat) (L : List (Nat × Sl)) (k : Dk Nat) (S : Nat → Prop) : Prop := Both w S b bd room (keysI L) L k ∧ ∀ i, S i → B ≤ i
section
variable {B : Nat} {w w' : World} {b bd room : Nat} {L L' : List (Nat × Sl)} {k k' : Dk Nat} {S : Nat → Prop}
theorem Ours.turn (h : Ours B w b bd room L k S) (ht : BTurned S w w' b bd room (keysI L') L' k') (hB : B ≤ w.heap.size) : (∃ S', Ours B w' b bd room L' k' S') ∧ Below B w w' := by
  obtain ⟨hK, S', hD, hS⟩ := ht
  refine ⟨⟨S', hD, fun i hi => ?_⟩, hK.below h.2 hB⟩
  rcases hS i hi with hs | hs
  · exact h.2 i hs
  · omega
theorem Ours.below (h : Ours B w b bd room L k S) (hb : Below w.heap.size w w') : Ours B w' b bd room L k S := ⟨h.1.below hb, h.2⟩
theorem Ours.new (h : Ours B w b bd room L k S) {g : Nat} (hg : w.heap.size ≤ g) : ¬ S g := fun hs => by
  have := h.1.lt hs
  omega
theorem Ours.disk (h : Ours B w b bd room L k S) : ∃ Sd, IsDisk sec w Sd bd k := by
  obtain ⟨⟨Sc, Sd, _, _, hd⟩, _⟩ := h
  exact ⟨Sd, hd⟩
theorem Ours.cache (h : Ours B w b bd room L k S) : ∃ Sc, CM w Sc b bd room (keysI L) L := by
  obtain ⟨⟨Sc, Sd, _, hc, _⟩, _⟩ := h
  exact ⟨Sc, hc⟩
/-- A new cache of a disk. -/
theorem Ours.start {Sd : Nat → Prop} {Sc : Nat → Prop} (hd : IsDisk sec w Sd bd k) (hS : ∀ i, Sd i → B ≤ i) (hb : Below w.heap.size w w') (hB : B ≤ w.heap.size) (hc : CM w' Sc b bd room (keysI []) []) (hSc : ∀ i, Sc i → w.heap.size ≤ i) : Ours B w' b bd room [] k (fun i => Sc i ∨ Sd i) :=
  ⟨⟨Sc, Sd, rfl, hc, hd.below hb⟩, fun i hi => hi.elim (fun h => Nat.le_trans hB (hSc i h)) (hS i)⟩
end

theorem two_turn {B : Nat} {w w' : World} {b b2 bd r r2 ga : Nat} {O : List Int} {L L' cL : List (Nat × Sl)} {k k' : Dk Nat} {S Sc : Nat → Prop} {xs : List Value} (hO : Ours B w b2 bd r L k S) (ht : BTurned S w w' b2 bd r (keysI L') L' k') (hB : B ≤ w.heap.size) (hC : CM w Sc b bd r2 O cL) (hA : Bk w ga 65 xs) (hd : ∀ i, (Sc i ∨ i = ga) → ¬ S i) :
    ∃ S', Ours B w' b2 bd r L' k' S' ∧ CM w' Sc b bd r2 O cL ∧ Bk w' ga 65 xs ∧ (∀ i, (Sc i ∨ i = ga) → ¬ S' i) ∧ Below B w w' := by
  obtain ⟨hK, S', hD, hS⟩ := ht
  refine ⟨S', ⟨hD, fun i hi => ?_⟩, hC.keep fun i hi => hK.block i (hC.lt hi) (hd i (.inl hi)), (hK.block ga hA.lt (hd ga (.inr rfl))).trans hA, fun i hi h => ?_, hK.below hO.2 hB⟩
  · rcases hS i hi with hs | hs
    · exact hO.2 i hs
    · omega
  · rcases hS i h with hs | hs
    · exact hd i hi hs
    · rcases hi with hi | rfl
      · have := hC.lt hi; omega
      · have := hA.lt; omega

theorem ints_one (w : World) (b : Nat) (x : Int) (hb : b ≤ w.heap.size) : Ints (w.alloc (.cells #[.int .i64 x] 3)) b (.slice (some ⟨w.heap.size, 0, none⟩) 1 1) [x] :=
  Bk.own (Bk.new w 3 [.int .i64 x]) 1 rfl hb (by unfold maxLen; omega)
theorem run_field41 (u : World) (x : Int) (A : Option Addr) (n c : Nat) (t : Int) : (Instr.field 41 (.agg #[.int .i64 x, .slice A n c, .int .u16 t]) 1).run Try.prog u = .ok (.slice A n c) u := by kernel_rfl
def kd0 : Dk Nat := Dk.fresh 9 0
def sA : Sl := ⟨7, 7, true, 0⟩
def kd1 : Dk Nat := kd0.wrote 3 7
def sB : Sl := ⟨8, 8, true, 0⟩
def sC : Sl := ⟨8, 8, true, 1⟩
theorem fineA : Fine 0 [] kd0 := ⟨by simp, by simp, by decide, rfl, rfl, by decide, by decide⟩
theorem fineB : Fine 1 [(3, sA)] kd0 := ⟨by simp; decide, by simp [sA], by decide, rfl, rfl, by decide, by decide⟩
theorem fineC : Fine 1 [] kd1 := ⟨by simp, by simp, by decide, rfl, rfl, by decide, by decide⟩
theorem fineD : Fine 1 [(3, sB)] kd1 := ⟨by simp; decide, by simp [sB], by decide, rfl, rfl, by decide, by decide⟩
theorem fineE : Fine 1 [(3, sC)] kd1 := ⟨by simp; decide, by simp [sC], by decide, rfl, rfl, by decide, by decide⟩

set_option maxRecDepth 100000 in
set_option maxHeartbeats 3200000 in
theorem shown_any (w : World) : Calls Try.prog 8 #[] w fun e w' => e = .returned (.bool true) ∧ Below w.heap.size w w' := by
  go_enter Try.func8, Try.ntmps8
  go_wp2_with fail
  refine (new_any (f := sec) _ 9 (by decide) 0 sec_zero).mono ?_
  rintro e w1 ⟨bd, Sd, rfl, hb, hD, hS⟩
  have D1 := Lib.hid hD
  have L1 := Lib.hid hb
  have HS1 := Lib.hid hS
  clear hb hD hS
  go_wp2_with fail
  refine (cnew_any _ bd 1 (by decide) (by decide)).mono ?_
  rintro e w2 ⟨b, Sc, rfl, hb, hC, hS⟩
  have O2 : Hid (Ours w.heap.size w2 b bd 1 [] kd0 (fun i => Sc i ∨ Sd i)) := Ours.start D1.out HS1.out hb L1.out.size hC hS
  have L2 := Lib.hid (L1.out.trans (hb.mono L1.out.size))
  clear hb hC hS D1 L1 HS1
  go_wp2_with fail
  refine (patch_int 3 7 7 rfl (by decide) _).mono ?_
  rintro e w3 ⟨g3, rfl, hg, hB, hb⟩
  have O3 := Lib.hid (O2.out.below hb)
  have N3 := Lib.hid (O2.out.new hg)
  have B3 := Lib.hid hB
  have L3 := Lib.hid (L2.out.trans (hb.mono L2.out.size))
  clear hg hB hb O2 L2
  go_wp2_with fail
  refine (put_miss O3.out.1 fineA (by decide) (s := 3) (c := 7) (by decide) (by simp) (L1 := []) (k1 := kd0) (by rfl) B3.out N3.out).mono ?_
  rintro e w4 ⟨rfl, ht⟩
  obtain ⟨⟨S4, hM⟩, hb⟩ := O3.out.turn ht L3.out.size
  have O4 : Hid (Ours w.heap.size w4 b bd 1 [(3, sA)] kd0 S4) := hM
  have L4 := Lib.hid (L3.out.trans hb)
  clear ht hM hb O3 L3 N3 B3
  go_wp2_with fail
  refine (get_miss O4.out.1 fineB (by decide) (s := 5) (c := 0) (by decide) (by simp) (L1 := []) (k1 := kd1) (by rfl) (by rfl)).mono ?_
  rintro e w5 ⟨g5, rfl, hg5, hB5, w5', ht, hb5⟩
  obtain ⟨⟨S5, hM⟩, hb⟩ := O4.out.turn ht L4.out.size
  have O5 : Hid (Ours w.heap.size w5 b bd 1 [(5, ⟨0, 0, false, 0⟩)] kd1 S5) := hM.below hb5
  have L5 := Lib.hid (L4.out.trans (hb.trans (hb5.mono (Nat.le_trans L4.out.size (ht.1.size)))))
  clear ht hM hb O4 L4 hg5 hB5 hb5
  obtain ⟨Sd5, hd5⟩ := O5.out.disk
  go_wp2_with fail
  refine (read_any _ _ _ kd1 hd5 3 7 (same 7) (.int .u16 7) (by rfl) rfl (same_length 7) (same_one 7) (by rfl)).mono ?_
  rintro e w6 ⟨rfl, hB, hb⟩
  obtain ⟨ga, hga⟩ : ∃ ga, ga = w5.heap.size := ⟨_, rfl⟩
  rw [← hga] at hB ⊢
  have RA := Lib.hid hB
  have O6 := Lib.hid (O5.out.below hb)
  have L6 := Lib.hid (L5.out.trans (hb.mono L5.out.size))
  clear hB hb hga O5 L5 hd5
  obtain ⟨⟨Sc6, Sd6, hS6, hc6, hd6⟩, hn6⟩ := O6.out
  go_wp2_with fail
  refine (cnew_any _ bd 1 (by decide) (by decide)).mono ?_
  rintro e w7 ⟨b2, Sk, rfl, hb, hK, hS⟩
  have C7 := Lib.hid (hc6.below hb)
  have P7 : Hid (Ours w.heap.size w7 b2 bd 1 [] kd1 (fun i => Sk i ∨ Sd6 i)) := Ours.start hd6 (fun i hi => hn6 i (by rw [hS6]; exact .inr hi)) hb L6.out.size hK hS
  have A7 : Hid (∀ i, (Sc6 i ∨ i = ga) → ¬ (Sk i ∨ Sd6 i)) := fun i hi h => by
    rcases hi with hi | rfl
    · rcases h with h | h
      · have := hS i h; have := hc6.lt hi; omega
      · exact hc6.apart hd6 hi h
    · rcases h with h | h
      · have := hS _ h; have := RA.out.lt; omega
      · obtain ⟨c, t, hc, ht⟩ := disk_type hd6 h
        exact type_ne RA.out hc (by rcases ht with rfl | rfl | rfl <;> decide) rfl
  have R7 := Lib.hid (RA.out.below hb RA.out.lt)
  have L7 := Lib.hid (L6.out.trans (hb.mono L6.out.size))
  clear hS6 hc6 hd6 hn6 hb hK hS RA O6 L6
  go_wp2_with fail
  refine (patch_int 3 8 8 rfl (by decide) _).mono ?_
  rintro e w8 ⟨g8, rfl, hg, hB, hb⟩
  have P8 := Lib.hid (P7.out.below hb)
  have N8 := Lib.hid (P7.out.new hg)
  have B8 := Lib.hid hB
  have C8 := Lib.hid (C7.out.below hb)
  have R8 := Lib.hid (R7.out.below hb R7.out.lt)
  have L8 := Lib.hid (L7.out.trans (hb.mono L7.out.size))
  clear hg hB hb P7 C7 R7 L7
  go_wp2_with fail
  refine (put_miss P8.out.1 fineC (by decide) (s := 3) (c := 8) (by decide) (by simp) (L1 := []) (k1 := kd1) (by rfl) B8.out N8.out).mono ?_
  rintro e w9 ⟨rfl, ht⟩
  obtain ⟨S9, hP, hC, hA, hd, hb⟩ := two_turn (L' := [(3, sB)]) P8.out ht L8.out.size C8.out R8.out A7.out
  have P9 := Lib.hid hP
  have C9 := Lib.hid hC
  have R9 := Lib.hid hA
  have A9 := Lib.hid hd
  have L9 := Lib.hid (L8.out.trans hb)
  clear ht hP hC hA hd hb P8 N8 B8 C8 R8 L8 A7
  go_wp2_with fail
  refine (pin_ok P9.out.1 (i := 0) (s := 3) (x := sB) (by rfl) (by decide) (by decide)).mono ?_
  rintro e w10 ⟨rfl, ht⟩
  obtain ⟨S10, hP, hC, hA, hd, hb⟩ := two_turn (L' := [(3, sC)]) P9.out ht L9.out.size C9.out R9.out A9.out
  have P10 := Lib.hid hP
  have C10 := Lib.hid hC
  have R10 := Lib.hid hA
  have A10 := Lib.hid hd
  have L10 := Lib.hid (L9.out.trans hb)
  clear ht hP hC hA hd hb P9 C9 R9 L9 A9
  go_wp2_with fail
  refine (get_full P10.out.1 fineE (s := 5) (by decide) (by simp) (by rfl)).mono ?_
  rintro e w11 ⟨rfl, ht⟩
  obtain ⟨S11, hP, hC, hA, hd, hb⟩ := two_turn (L' := [(3, sC)]) P10.out ht L10.out.size C10.out R10.out A10.out
  have C11 := Lib.hid hC
  have R11 := Lib.hid hA
  have L11 := Lib.hid (L10.out.trans hb)
  clear ht hP hC hA hd hb P10 C10 R10 L10 A10
  go_wp2
  refine wp_region_held_drew (S := fun u : World => Bk u ga 65 (same 7) ∧ CM u Sc6 b bd 1 (keysI [(5, ⟨0, 0, false, 0⟩)]) [(5, ⟨0, 0, false, 0⟩)] ∧ Below w.heap.size w u) (by kernel_rfl) ⟨R11.out, C11.out.below (Below.refl _ _).drew, L11.out.drew⟩ (fun hHeld => ?_)
  refine wpAnyH_take (i := 0) (oi := _) (v := ?_) (by simp only [List.getElem?_toArray, List.getElem?_cons_zero]; rfl) (by kernel_rfl) (by kernel_rfl) (by kernel_rfl) (by exact fun _ _ _ h => h) (Or.inl ⟨by rfl, ?hya0⟩) (⟨R11.out, C11.out.below (Below.refl _ _).drew, L11.out.drew⟩) ?rea0
  case hya0 => (rintro u ⟨hA1, hA2, hA3⟩; have e1 := conv_any hA1 (by decide); clear hA1 hA2 hA3; go_simp <;> with_reducible rfl)
  try simp only [Act.put, List.setIfInBounds_toArray, List.set_cons_zero, List.set_cons_succ]
  refine wpAnyH_take (i := 1) (oi := _) (v := ?_) (by simp only [List.getElem?_toArray, List.getElem?_cons_succ, List.getElem?_cons_zero]; rfl) (by kernel_rfl) (by kernel_rfl) (by kernel_rfl) (by exact fun _ _ _ h => h) (Or.inl ⟨by rfl, ?hya1⟩) (⟨R11.out, C11.out.below (Below.refl _ _).drew, L11.out.drew⟩) ?rea1
  case hya1 => (rintro u ⟨hA1, hA2, hA3⟩; have e1 := conv_any hA1 (by decide); clear hA1 hA2 hA3; go_simp <;> with_reducible rfl)
  try simp only [Act.put, List.setIfInBounds_toArray, List.set_cons_zero, List.set_cons_succ]
  refine wpAnyH_take (i := 2) (oi := _) (v := ?_) (by simp only [List.getElem?_toArray, List.getElem?_cons_succ, List.getElem?_cons_zero]; rfl) (by kernel_rfl) (by kernel_rfl) (by kernel_rfl) (by exact fun _ _ _ h => h) (Or.inl ⟨by rfl, ?hya2⟩) (⟨R11.out, C11.out.below (Below.refl _ _).drew, L11.out.drew⟩) ?rea2
  case hya2 => (rintro u ⟨hA1, hA2, hA3⟩; have e1 := conv_any hA1 (by decide); clear hA1 hA2 hA3; go_simp <;> with_reducible rfl)
  try simp only [Act.put, List.setIfInBounds_toArray, List.set_cons_zero, List.set_cons_succ]
  refine wpAnyH_take (i := 3) (oi := _) (v := ?_) (by simp only [List.getElem?_toArray, List.getElem?_cons_succ, List.getElem?_cons_zero]; rfl) (by kernel_rfl) (by kernel_rfl) (by kernel_rfl) (by exact fun _ _ _ h => h) (Or.inl ⟨by rfl, ?hya3⟩) (⟨R11.out, C11.out.below (Below.refl _ _).drew, L11.out.drew⟩) ?rea3
  case hya3 => (rintro u ⟨hA1, hA2, hA3⟩; have e1 := conv_any hA1 (by decide); clear hA1 hA2 hA3; go_simp <;> with_reducible rfl)
  try simp only [Act.put, List.setIfInBounds_toArray, List.set_cons_zero, List.set_cons_succ]
  refine wpAnyH_take (i := 4) (oi := _) (v := ?_) (by simp only [List.getElem?_toArray, List.getElem?_cons_succ, List.getElem?_cons_zero]; rfl) (by kernel_rfl) (by kernel_rfl) (by kernel_rfl) (by exact fun _ _ _ h => h) (Or.inl ⟨by rfl, ?hya4⟩) (⟨R11.out, C11.out.below (Below.refl _ _).drew, L11.out.drew⟩) ?rea4
  case hya4 => (rintro u ⟨hA1, hA2, hA3⟩; have e1 := conv_any hA1 (by decide); clear hA1 hA2 hA3; go_simp <;> with_reducible rfl)
  try simp only [Act.put, List.setIfInBounds_toArray, List.set_cons_zero, List.set_cons_succ]
  refine wpAnyH_ready (rs := [5]) (by kernel_rfl) (by simp) ?_
  refine AllReadyH.cons (o := _) (by simp only [List.getElem?_toArray, List.getElem?_cons_succ, List.getElem?_cons_zero]; rfl) (fun K hK => ?_) AllReadyH.nil
  go_simp
  refine (patch_int 3 7 7 rfl (by decide) _).mono ?_
  rintro e w12 ⟨gp, rfl, hg, hB, hb⟩
  have HS1 : Hid ((fun u : World => Bk u ga 65 (same 7) ∧ CM u Sc6 b bd 1 (keysI [(5, ⟨0, 0, false, 0⟩)]) [(5, ⟨0, 0, false, 0⟩)] ∧ Below w.heap.size w u) w12) := ⟨Bk.below (w := w11.drew) R11.out hb R11.out.lt, (C11.out.below (Below.refl _ _).drew).below hb, L11.out.drew.trans (hb.mono L11.out.size)⟩
  have RP := Lib.hid hB
  clear hB hb hg
  go_simp
  refine hK.out _ _ HS1.out (fun hHeld2 => ?_)
  refine held_strong (T := fun u => Bk u gp 5 (same 7) ∧ (fun u : World => Bk u ga 65 (same 7) ∧ CM u Sc6 b bd 1 (keysI [(5, ⟨0, 0, false, 0⟩)]) [(5, ⟨0, 0, false, 0⟩)] ∧ Below w.heap.size w u) u) (by rintro _ ⟨_, h⟩; exact h) _ _ _ _ ?_
  clear hK K hHeld hHeld2
  refine wpAnyH_take (i := 6) (oi := _) (v := ?_) (by simp only [List.getElem?_toArray, List.getElem?_cons_succ, List.getElem?_cons_zero]; rfl) (by kernel_rfl) (by kernel_rfl) (by kernel_rfl) (by exact fun _ _ _ h => h) (Or.inl ⟨by rfl, ?hyb6⟩) (⟨RP.out, HS1.out⟩) ?reb6
  case hyb6 => (rintro u ⟨hA0, hA1, hA2, hA3⟩; have e0 := conv_any hA0 (by decide); have e1 := conv_any hA1 (by decide); have e3 := strS_same 7; have e4 := run_field41 u; clear hA0 hA1 hA2 hA3; go_simp <;> with_reducible rfl)
  try simp only [Act.put, List.setIfInBounds_toArray, List.set_cons_zero, List.set_cons_succ]
  refine wpAnyH_take (i := 7) (oi := _) (v := ?_) (by simp only [List.getElem?_toArray, List.getElem?_cons_succ, List.getElem?_cons_zero]; rfl) (by kernel_rfl) (by kernel_rfl) (by kernel_rfl) (by exact fun _ _ _ h => h) (Or.inl ⟨by rfl, ?hyb7⟩) (⟨RP.out, HS1.out⟩) ?reb7
  case hyb7 => (rintro u ⟨hA0, hA1, hA2, hA3⟩; have e0 := conv_any hA0 (by decide); have e1 := conv_any hA1 (by decide); have e3 := strS_same 7; have e4 := run_field41 u; clear hA0 hA1 hA2 hA3; go_simp <;> with_reducible rfl)
  try simp only [Act.put, List.setIfInBounds_toArray, List.set_cons_zero, List.set_cons_succ]
  refine wpAnyH_take (i := 8) (oi := _) (v := ?_) (by simp only [List.getElem?_toArray, List.getElem?_cons_succ, List.getElem?_cons_zero]; rfl) (by kernel_rfl) (by kernel_rfl) (by kernel_rfl) (by exact fun _ _ _ h => h) (Or.inl ⟨by rfl, ?hyb8⟩) (⟨RP.out, HS1.out⟩) ?reb8
  case hyb8 => (rintro u ⟨hA0, hA1, hA2, hA3⟩; have e0 := conv_any hA0 (by decide); have e1 := conv_any hA1 (by decide); have e3 := strS_same 7; have e4 := run_field41 u; clear hA0 hA1 hA2 hA3; go_simp <;> with_reducible rfl)
  try simp only [Act.put, List.setIfInBounds_toArray, List.set_cons_zero, List.set_cons_succ]
  refine wpAnyH_take (i := 9) (oi := _) (v := ?_) (by simp only [List.getElem?_toArray, List.getElem?_cons_succ, List.getElem?_cons_zero]; rfl) (by kernel_rfl) (by kernel_rfl) (by kernel_rfl) (by exact fun _ _ _ h => h) (Or.inl ⟨by rfl, ?hyb9⟩) (⟨RP.out, HS1.out⟩) ?reb9
  case hyb9 => (rintro u ⟨hA0, hA1, hA2, hA3⟩; have e0 := conv_any hA0 (by decide); have e1 := conv_any hA1 (by decide); have e3 := strS_same 7; have e4 := run_field41 u; clear hA0 hA1 hA2 hA3; go_simp <;> with_reducible rfl)
  try simp only [Act.put, List.setIfInBounds_toArray, List.set_cons_zero, List.set_cons_succ]
  refine wpAnyH_take (i := 10) (oi := _) (v := ?_) (by simp only [List.getElem?_toArray, List.getElem?_cons_succ, List.getElem?_cons_zero]; rfl) (by kernel_rfl) (by kernel_rfl) (by kernel_rfl) (by exact fun _ _ _ h => h) (Or.inl ⟨by rfl, ?hyb10⟩) (⟨RP.out, HS1.out⟩) ?reb10
  case hyb10 => (rintro u ⟨hA0, hA1, hA2, hA3⟩; have e0 := conv_any hA0 (by decide); have e1 := conv_any hA1 (by decide); have e3 := strS_same 7; have e4 := run_field41 u; clear hA0 hA1 hA2 hA3; go_simp <;> with_reducible rfl)
  try simp only [Act.put, List.setIfInBounds_toArray, List.set_cons_zero, List.set_cons_succ]
  refine wpAnyH_take (i := 11) (oi := _) (v := ?_) (by simp only [List.getElem?_toArray, List.getElem?_cons_succ, List.getElem?_cons_zero]; rfl) (by kernel_rfl) (by kernel_rfl) (by kernel_rfl) (by exact fun _ _ _ h => h) (Or.inl ⟨by rfl, ?hyb11⟩) (⟨RP.out, HS1.out⟩) ?reb11
  case hyb11 => (rintro u ⟨hA0, hA1, hA2, hA3⟩; have e0 := conv_any hA0 (by decide); have e1 := conv_any hA1 (by decide); have e3 := strS_same 7; have e4 := run_field41 u; clear hA0 hA1 hA2 hA3; go_simp <;> with_reducible rfl)
  try simp only [Act.put, List.setIfInBounds_toArray, List.set_cons_zero, List.set_cons_succ]
  refine wpAnyH_ready (rs := [12, 13]) (by kernel_rfl) (by simp) ?_
  refine AllReadyH.cons (o := _) (by simp only [List.getElem?_toArray, List.getElem?_cons_succ, List.getElem?_cons_zero]; rfl) (fun K hK => ?_) (AllReadyH.cons (o := _) (by simp only [List.getElem?_toArray, List.getElem?_cons_succ, List.getElem?_cons_zero]; rfl) (fun K hK => ?_) AllReadyH.nil)
  · go_simp
    refine (has_cached (show (fun u : World => Bk u gp 5 (same 7) ∧ (fun u : World => Bk u ga 65 (same 7) ∧ CM u Sc6 b bd 1 (keysI [(5, ⟨0, 0, false, 0⟩)]) [(5, ⟨0, 0, false, 0⟩)] ∧ Below w.heap.size w u) u) w12 from ⟨RP.out, HS1.out⟩).2.2.1 (by decide)).mono ?_
    rintro e w13 ⟨v, rfl, hI, hb⟩
    have hT : (fun u : World => Bk u gp 5 (same 7) ∧ (fun u : World => Bk u ga 65 (same 7) ∧ CM u Sc6 b bd 1 (keysI [(5, ⟨0, 0, false, 0⟩)]) [(5, ⟨0, 0, false, 0⟩)] ∧ Below w.heap.size w u) u) w13 := ⟨(show (fun u : World => Bk u gp 5 (same 7) ∧ (fun u : World => Bk u ga 65 (same 7) ∧ CM u Sc6 b bd 1 (keysI [(5, ⟨0, 0, false, 0⟩)]) [(5, ⟨0, 0, false, 0⟩)] ∧ Below w.heap.size w u) u) w12 from ⟨RP.out, HS1.out⟩).1.below hb (show (fun u : World => Bk u gp 5 (same 7) ∧ (fun u : World => Bk u ga 65 (same 7) ∧ CM u Sc6 b bd 1 (keysI [(5, ⟨0, 0, false, 0⟩)]) [(5, ⟨0, 0, false, 0⟩)] ∧ Below w.heap.size w u) u) w12 from ⟨RP.out, HS1.out⟩).1.lt, (show (fun u : World => Bk u gp 5 (same 7) ∧ (fun u : World => Bk u ga 65 (same 7) ∧ CM u Sc6 b bd 1 (keysI [(5, ⟨0, 0, false, 0⟩)]) [(5, ⟨0, 0, false, 0⟩)] ∧ Below w.heap.size w u) u) w12 from ⟨RP.out, HS1.out⟩).2.1.below hb (show (fun u : World => Bk u gp 5 (same 7) ∧ (fun u : World => Bk u ga 65 (same 7) ∧ CM u Sc6 b bd 1 (keysI [(5, ⟨0, 0, false, 0⟩)]) [(5, ⟨0, 0, false, 0⟩)] ∧ Below w.heap.size w u) u) w12 from ⟨RP.out, HS1.out⟩).2.1.lt, (show (fun u : World => Bk u gp 5 (same 7) ∧ (fun u : World => Bk u ga 65 (same 7) ∧ CM u Sc6 b bd 1 (keysI [(5, ⟨0, 0, false, 0⟩)]) [(5, ⟨0, 0, false, 0⟩)] ∧ Below w.heap.size w u) u) w12 from ⟨RP.out, HS1.out⟩).2.2.1.below hb, (show (fun u : World => Bk u gp 5 (same 7) ∧ (fun u : World => Bk u ga 65 (same 7) ∧ CM u Sc6 b bd 1 (keysI [(5, ⟨0, 0, false, 0⟩)]) [(5, ⟨0, 0, false, 0⟩)] ∧ Below w.heap.size w u) u) w12 from ⟨RP.out, HS1.out⟩).2.2.2.trans (hb.mono (show (fun u : World => Bk u gp 5 (same 7) ∧ (fun u : World => Bk u ga 65 (same 7) ∧ CM u Sc6 b bd 1 (keysI [(5, ⟨0, 0, false, 0⟩)]) [(5, ⟨0, 0, false, 0⟩)] ∧ Below w.heap.size w u) u) w12 from ⟨RP.out, HS1.out⟩).2.2.2.size)⟩
    have hI5 : Ints w13 0 v [5] := hI.more (Nat.zero_le _)
    have HT := Lib.hid hT
    have HI := Lib.hid hI5
    clear hT hI5
    clear hI hb
    go_simp
    refine hK.out _ _ HT.out (fun hHeld2 => ?_)
    refine held_strong (T := fun u => Ints u 0 v [5] ∧ (fun u : World => Bk u gp 5 (same 7) ∧ (fun u : World => Bk u ga 65 (same 7) ∧ CM u Sc6 b bd 1 (keysI [(5, ⟨0, 0, false, 0⟩)]) [(5, ⟨0, 0, false, 0⟩)] ∧ Below w.heap.size w u) u) u) (by rintro _ ⟨_, h⟩; exact h) _ _ _ _ ?_
    clear hK K hHeld2
    refine wpAnyH_ready (rs := [13]) (by kernel_rfl) (by simp) ?_
    refine AllReadyH.cons (o := _) (by simp only [List.getElem?_toArray, List.getElem?_cons_succ, List.getElem?_cons_zero]; rfl) (fun K hK => ?_) AllReadyH.nil
    go_simp
    have hbz : Below w13.heap.size w13 (w13.alloc (.cells #[.int .i64 5] 3)) := (Below.refl _ _).alloc (Nat.le_refl _) _
    have hJ : Ints (w13.alloc (.cells #[.int .i64 5] 3)) 0 (.slice (some ⟨w13.heap.size, 0, none⟩) 1 1) [5] := ints_one w13 0 5 (Nat.zero_le _)
    have hT2 : (fun u => Ints u 0 v [5] ∧ (fun u : World => Bk u gp 5 (same 7) ∧ (fun u : World => Bk u ga 65 (same 7) ∧ CM u Sc6 b bd 1 (keysI [(5, ⟨0, 0, false, 0⟩)]) [(5, ⟨0, 0, false, 0⟩)] ∧ Below w.heap.size w u) u) u) (w13.alloc (.cells #[.int .i64 5] 3)) := ⟨HI.out.below hbz, HT.out.1.below hbz HT.out.1.lt, HT.out.2.1.below hbz HT.out.2.1.lt, HT.out.2.2.1.below hbz, HT.out.2.2.2.trans (hbz.mono HT.out.2.2.2.size)⟩
    have HJ := Lib.hid hJ
    have HT2 := Lib.hid hT2
    clear hbz hJ hT2
    refine hK.out _ _ HT2.out (fun hHeld2 => ?_)
    clear hK K hHeld2
    obtain ⟨gq, hgq⟩ : ∃ gq, gq = w13.heap.size := ⟨_, rfl⟩
    rw [← hgq] at HJ ⊢
    generalize w13.alloc (.cells #[.int .i64 5] 3) = w14 at *
    clear hgq
    refine wpAnyH_ready (rs := [14]) (by kernel_rfl) (by simp) ?_
    refine AllReadyH.cons (o := _) (by simp only [List.getElem?_toArray, List.getElem?_cons_succ, List.getElem?_cons_zero]; rfl) (fun K hK => ?_) AllReadyH.nil
    go_simp
    refine (same_ints HT2.out.1 HJ.out).mono ?_
    rintro e w15 ⟨rfl, hb⟩
    have hT3 : (fun u => Ints u 0 v [5] ∧ (fun u : World => Bk u gp 5 (same 7) ∧ (fun u : World => Bk u ga 65 (same 7) ∧ CM u Sc6 b bd 1 (keysI [(5, ⟨0, 0, false, 0⟩)]) [(5, ⟨0, 0, false, 0⟩)] ∧ Below w.heap.size w u) u) u) w15 := ⟨HT2.out.1.below hb, HT2.out.2.1.below hb HT2.out.2.1.lt, HT2.out.2.2.1.below hb HT2.out.2.2.1.lt, HT2.out.2.2.2.1.below hb, HT2.out.2.2.2.2.trans (hb.mono HT2.out.2.2.2.2.size)⟩
    have HT3 := Lib.hid hT3
    clear hT3 hb
    rw [show (([5] : List Int) == [5]) = true from rfl]
    go_simp
    refine hK.out _ _ HT3.out (fun hHeld2 => ?_)
    clear hK K hHeld2
    refine wpAnyH_take (i := 15) (oi := _) (v := ?_) (by simp only [List.getElem?_toArray, List.getElem?_cons_succ, List.getElem?_cons_zero]; rfl) (by kernel_rfl) (by kernel_rfl) (by kernel_rfl) (by exact fun _ _ _ h => h) (Or.inl ⟨by rfl, ?hyc1215⟩) (HT3.out) ?rec1215
    case hyc1215 => (intro u hSw; clear hSw; go_simp <;> with_reducible rfl)
    try simp only [Act.put, List.setIfInBounds_toArray, List.set_cons_zero, List.set_cons_succ]
    refine wpAnyH_take (i := 16) (oi := _) (v := ?_) (by simp only [List.getElem?_toArray, List.getElem?_cons_succ, List.getElem?_cons_zero]; rfl) (by kernel_rfl) (by kernel_rfl) (by kernel_rfl) (by exact fun _ _ _ h => h) (Or.inl ⟨by rfl, ?hyc1216⟩) (HT3.out) ?rec1216
    case hyc1216 => (intro u hSw; clear hSw; go_simp <;> with_reducible rfl)
    try simp only [Act.put, List.setIfInBounds_toArray, List.set_cons_zero, List.set_cons_succ]
    refine wpAnyH_take (i := 17) (oi := _) (v := ?_) (by simp only [List.getElem?_toArray, List.getElem?_cons_succ, List.getElem?_cons_zero]; rfl) (by kernel_rfl) (by kernel_rfl) (by kernel_rfl) (by exact fun _ _ _ h => h) (Or.inl ⟨by rfl, ?hyc1217⟩) (HT3.out) ?rec1217
    case hyc1217 => (intro u hSw; clear hSw; go_simp <;> with_reducible rfl)
    try simp only [Act.put, List.setIfInBounds_toArray, List.set_cons_zero, List.set_cons_succ]
    refine wpAnyH_take (i := 18) (oi := _) (v := ?_) (by simp only [List.getElem?_toArray, List.getElem?_cons_succ, List.getElem?_cons_zero]; rfl) (by kernel_rfl) (by kernel_rfl) (by kernel_rfl) (by exact fun _ _ _ h => h) (Or.inl ⟨by rfl, ?hyc1218⟩) (HT3.out) ?rec1218
    case hyc1218 => (intro u hSw; clear hSw; go_simp <;> with_reducible rfl)
    try simp only [Act.put, List.setIfInBounds_toArray, List.set_cons_zero, List.set_cons_succ]
    refine wpAnyH_take (i := 19) (oi := _) (v := ?_) (by simp only [List.getElem?_toArray, List.getElem?_cons_succ, List.getElem?_cons_zero]; rfl) (by kernel_rfl) (by kernel_rfl) (by kernel_rfl) (by exact fun _ _ _ h => h) (Or.inl ⟨by rfl, ?hyc1219⟩) (HT3.out) ?rec1219
    case hyc1219 => (intro u hSw; clear hSw; go_simp <;> with_reducible rfl)
    try simp only [Act.put, List.setIfInBounds_toArray, List.set_cons_zero, List.set_cons_succ]
    refine wpAnyH_take (i := 20) (oi := _) (v := ?_) (by simp only [List.getElem?_toArray, List.getElem?_cons_succ, List.getElem?_cons_zero]; rfl) (by kernel_rfl) (by kernel_rfl) (by kernel_rfl) (by exact fun _ _ _ h => h) (Or.inl ⟨by rfl, ?hyc1220⟩) (HT3.out) ?rec1220
    case hyc1220 => (intro u hSw; clear hSw; go_simp <;> with_reducible rfl)
    try simp only [Act.put, List.setIfInBounds_toArray, List.set_cons_zero]
    refine wpAnyH_done (by kernel_rfl) ?_ _
    go_wp2
    go_ret
    exact ⟨rfl, HT3.out.2.2.2.2⟩
  · go_simp
    have hbz : Below w12.heap.size w12 (w12.alloc (.cells #[.int .i64 5] 3)) := (Below.refl _ _).alloc (Nat.le_refl _) _
    have hJ : Ints (w12.alloc (.cells #[.int .i64 5] 3)) 0 (.slice (some ⟨w12.heap.size, 0, none⟩) 1 1) [5] := ints_one w12 0 5 (Nat.zero_le _)
    have hT0 : (fun u : World => Bk u gp 5 (same 7) ∧ (fun u : World => Bk u ga 65 (same 7) ∧ CM u Sc6 b bd 1 (keysI [(5, ⟨0, 0, false, 0⟩)]) [(5, ⟨0, 0, false, 0⟩)] ∧ Below w.heap.size w u) u) (w12.alloc (.cells #[.int .i64 5] 3)) := ⟨RP.out.below hbz RP.out.lt, HS1.out.1.below hbz HS1.out.1.lt, HS1.out.2.1.below hbz, HS1.out.2.2.trans (hbz.mono HS1.out.2.2.size)⟩
    have HJ0 := Lib.hid hJ
    have HT0 := Lib.hid hT0
    clear hbz hJ hT0
    refine hK.out _ _ HT0.out (fun hHeld2 => ?_)
    clear hK K hHeld2
    obtain ⟨gq, hgq⟩ : ∃ gq, gq = w12.heap.size := ⟨_, rfl⟩
    rw [← hgq] at HJ0 ⊢
    generalize w12.alloc (.cells #[.int .i64 5] 3) = w13 at *
    clear hgq
    refine wpAnyH_ready (rs := [12]) (by kernel_rfl) (by simp) ?_
    refine AllReadyH.cons (o := _) (by simp only [List.getElem?_toArray, List.getElem?_cons_succ, List.getElem?_cons_zero]; rfl) (fun K hK => ?_) AllReadyH.nil
    go_simp
    refine (has_cached HT0.out.2.2.1 (by decide)).mono ?_
    rintro e w14 ⟨v, rfl, hI, hb⟩
    have hT : (fun u : World => Bk u gp 5 (same 7) ∧ (fun u : World => Bk u ga 65 (same 7) ∧ CM u Sc6 b bd 1 (keysI [(5, ⟨0, 0, false, 0⟩)]) [(5, ⟨0, 0, false, 0⟩)] ∧ Below w.heap.size w u) u) w14 := ⟨HT0.out.1.below hb HT0.out.1.lt, HT0.out.2.1.below hb HT0.out.2.1.lt, HT0.out.2.2.1.below hb, HT0.out.2.2.2.trans (hb.mono HT0.out.2.2.2.size)⟩
    have hI5 : Ints w14 0 v [5] := hI.more (Nat.zero_le _)
    have hJ5 := HJ0.out.below hb
    have hT2 : (fun u => Ints u 0 v [5] ∧ (fun u : World => Bk u gp 5 (same 7) ∧ (fun u : World => Bk u ga 65 (same 7) ∧ CM u Sc6 b bd 1 (keysI [(5, ⟨0, 0, false, 0⟩)]) [(5, ⟨0, 0, false, 0⟩)] ∧ Below w.heap.size w u) u) u) w14 := ⟨hI5, hT⟩
    have HT2 := Lib.hid hT2
    have HJ := Lib.hid hJ5
    have HT := Lib.hid hT
    clear hT hI5 hJ5 hT2
    clear hI hb
    go_simp
    refine hK.out _ _ HT.out (fun hHeld2 => ?_)
    refine held_strong (T := fun u => Ints u 0 v [5] ∧ (fun u : World => Bk u gp 5 (same 7) ∧ (fun u : World => Bk u ga 65 (same 7) ∧ CM u Sc6 b bd 1 (keysI [(5, ⟨0, 0, false, 0⟩)]) [(5, ⟨0, 0, false, 0⟩)] ∧ Below w.heap.size w u) u) u) (by rintro _ ⟨_, h⟩; exact h) _ _ _ _ ?_
    clear hK K hHeld2
    refine wpAnyH_ready (rs := [14]) (by kernel_rfl) (by simp) ?_
    refine AllReadyH.cons (o := _) (by simp only [List.getElem?_toArray, List.getElem?_cons_succ, List.getElem?_cons_zero]; rfl) (fun K hK => ?_) AllReadyH.nil
    go_simp
    refine (same_ints HT2.out.1 HJ.out).mono ?_
    rintro e w15 ⟨rfl, hb⟩
    have hT3 : (fun u => Ints u 0 v [5] ∧ (fun u : World => Bk u gp 5 (same 7) ∧ (fun u : World => Bk u ga 65 (same 7) ∧ CM u Sc6 b bd 1 (keysI [(5, ⟨0, 0, false, 0⟩)]) [(5, ⟨0, 0, false, 0⟩)] ∧ Below w.heap.size w u) u) u) w15 := ⟨HT2.out.1.below hb, HT2.out.2.1.below hb HT2.out.2.1.lt, HT2.out.2.2.1.below hb HT2.out.2.2.1.lt, HT2.out.2.2.2.1.below hb, HT2.out.2.2.2.2.trans (hb.mono HT2.out.2.2.2.2.size)⟩
    have HT3 := Lib.hid hT3
    clear hT3 hb
    rw [show (([5] : List Int) == [5]) = true from rfl]
    go_simp
    refine hK.out _ _ HT3.out (fun hHeld2 => ?_)
    clear hK K hHeld2
    refine wpAnyH_take (i := 15) (oi := _) (v := ?_) (by simp only [List.getElem?_toArray, List.getElem?_cons_succ, List.getElem?_cons_zero]; rfl) (by kernel_rfl) (by kernel_rfl) (by kernel_rfl) (by exact fun _ _ _ h => h) (Or.inl ⟨by rfl, ?hyc1315⟩) (HT3.out) ?rec1315
    case hyc1315 => (intro u hSw; clear hSw; go_simp <;> with_reducible rfl)
    try simp only [Act.put, List.setIfInBounds_toArray, List.set_cons_zero, List.set_cons_succ]
    refine wpAnyH_take (i := 16) (oi := _) (v := ?_) (by simp only [List.getElem?_toArray, List.getElem?_cons_succ, List.getElem?_cons_zero]; rfl) (by kernel_rfl) (by kernel_rfl) (by kernel_rfl) (by exact fun _ _ _ h => h) (Or.inl ⟨by rfl, ?hyc1316⟩) (HT3.out) ?rec1316
    case hyc1316 => (intro u hSw; clear hSw; go_simp <;> with_reducible rfl)
    try simp only [Act.put, List.setIfInBounds_toArray, List.set_cons_zero, List.set_cons_succ]
    refine wpAnyH_take (i := 17) (oi := _) (v := ?_) (by simp only [List.getElem?_toArray, List.getElem?_cons_succ, List.getElem?_cons_zero]; rfl) (by kernel_rfl) (by kernel_rfl) (by kernel_rfl) (by exact fun _ _ _ h => h) (Or.inl ⟨by rfl, ?hyc1317⟩) (HT3.out) ?rec1317
    case hyc1317 => (intro u hSw; clear hSw; go_simp <;> with_reducible rfl)
    try simp only [Act.put, List.setIfInBounds_toArray, List.set_cons_zero, List.set_cons_succ]
    refine wpAnyH_take (i := 18) (oi := _) (v := ?_) (by simp only [List.getElem?_toArray, List.getElem?_cons_succ, List.getElem?_cons_zero]; rfl) (by kernel_rfl) (by kernel_rfl) (by kernel_rfl) (by exact fun _ _ _ h => h) (Or.inl ⟨by rfl, ?hyc1318⟩) (HT3.out) ?rec1318
    case hyc1318 => (intro u hSw; clear hSw; go_simp <;> with_reducible rfl)
    try simp only [Act.put, List.setIfInBounds_toArray, List.set_cons_zero, List.set_cons_succ]
    refine wpAnyH_take (i := 19) (oi := _) (v := ?_) (by simp only [List.getElem?_toArray, List.getElem?_cons_succ, List.getElem?_cons_zero]; rfl) (by kernel_rfl) (by kernel_rfl) (by kernel_rfl) (by exact fun _ _ _ h => h) (Or.inl ⟨by rfl, ?hyc1319⟩) (HT3.out) ?rec1319
    case hyc1319 => (intro u hSw; clear hSw; go_simp <;> with_reducible rfl)
    try simp only [Act.put, List.setIfInBounds_toArray, List.set_cons_zero, List.set_cons_succ]
    refine wpAnyH_take (i := 20) (oi := _) (v := ?_) (by simp only [List.getElem?_toArray, List.getElem?_cons_succ, List.getElem?_cons_zero]; rfl) (by kernel_rfl) (by kernel_rfl) (by kernel_rfl) (by exact fun _ _ _ h => h) (Or.inl ⟨by rfl, ?hyc1320⟩) (HT3.out) ?rec1320
    case hyc1320 => (intro u hSw; clear hSw; go_simp <;> with_reducible rfl)
    try simp only [Act.put, List.setIfInBounds_toArray, List.set_cons_zero]
    refine wpAnyH_done (by kernel_rfl) ?_ _
    go_wp2
    go_ret
    exact ⟨rfl, HT3.out.2.2.2.2⟩
end Go.Proofs.Ytnmfpgeojggjbaa
