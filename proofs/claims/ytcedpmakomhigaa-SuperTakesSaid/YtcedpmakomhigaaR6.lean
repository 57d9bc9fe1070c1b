/-
  The geometry whose superblock given bytes are: what the document's own answer is.
-/
import Derived.Test.YtcedpmakomhigaaR5
namespace Go.Proofs.Ytcedpmakomhigaa
open Go.RowKit

set_option maxRecDepth 100000 in
theorem rtake_len (A : Option Addr) (n c : Nat) (w : World) (h : n ≠ 64) : Calls Try.prog 21 #[.slice A n c] w fun e w' => e = .returned (.tuple #[zeroG, .int .i64 90]) ∧ Below w.heap.size w w' := by
  have h' : ¬ (n : Int) = 64 := by omega
  have H := Lib.hid h'
  have h2 : ((n : Int) != 64) = true := by simpa using h'
  clear h h'
  go_enter Try.func21, Try.ntmps21
  go_wp2
  refine bodyPost_ret (v := .tuple #[zeroG, .int .i64 90]) (by simp [results, Try.results21, go_sem, zeroG, geoV]) rfl ⟨rfl, ?_⟩
  repeat (first | with_reducible exact Below.refl _ _ | with_reducible refine below_drewN ?_ _ | with_reducible refine Below.setCell ?_ ?_ _ | with_reducible refine Below.alloc ?_ ?_ _)
  all_goals (simp <;> omega)

set_option maxHeartbeats 1600000 in
set_option maxRecDepth 100000 in
theorem rtake_bad (l : List UInt8) (A : Option Addr) (c : Nat) (w : World) (hl : l.length = 64) (hr : Rd w w.heap.size A (bytesV l)) (h : ¬ Valid (numL l 4) (numL l 6) (numL l 8) (numL l 10)) :
    Calls Try.prog 21 #[.slice A 64 c] w fun e w' => e = .returned (.tuple #[zeroG, .int .i64 90]) ∧ Below w.heap.size w w' := by
  have H := Lib.hid h
  have bJ := numL_lt l 4
  have bI := numL_lt l 6
  have bG := numL_lt l 8
  have bP := numL_lt l 10
  have Hl := Lib.hid hl
  have HR := Lib.hid hr
  have A4 : Hid (∀ w, Rd w w.heap.size A (bytesV l) → Calls Try.prog 32 #[.slice A 64 c, .int .i64 4, .int .i64 2] w fun e w' => e = .returned (.int .u64 (numL l 4 : Nat)) ∧ w = w') := fun w hr => at_any l A 64 c _ 4 2 w hl hr (by omega) (by omega) (by omega) (by omega)
  have A6 : Hid (∀ w, Rd w w.heap.size A (bytesV l) → Calls Try.prog 32 #[.slice A 64 c, .int .i64 6, .int .i64 2] w fun e w' => e = .returned (.int .u64 (numL l 6 : Nat)) ∧ w = w') := fun w hr => at_any l A 64 c _ 6 2 w hl hr (by omega) (by omega) (by omega) (by omega)
  have A8 : Hid (∀ w, Rd w w.heap.size A (bytesV l) → Calls Try.prog 32 #[.slice A 64 c, .int .i64 8, .int .i64 2] w fun e w' => e = .returned (.int .u64 (numL l 8 : Nat)) ∧ w = w') := fun w hr => at_any l A 64 c _ 8 2 w hl hr (by omega) (by omega) (by omega) (by omega)
  have A10 : Hid (∀ w, Rd w w.heap.size A (bytesV l) → Calls Try.prog 32 #[.slice A 64 c, .int .i64 10, .int .i64 2] w fun e w' => e = .returned (.int .u64 (numL l 10 : Nat)) ∧ w = w') := fun w hr => at_any l A 64 c _ 10 2 w hl hr (by omega) (by omega) (by omega) (by omega)
  generalize numL l 4 = J at *
  generalize numL l 6 = I at *
  generalize numL l 8 = G at *
  generalize numL l 10 = P at *
  clear h hl hr
  have z1 : IntKind.i64.wrap (J : Int) = J := IntWalk.i64_in _ (by omega)
  have z2 : IntKind.i64.wrap (I : Int) = I := IntWalk.i64_in _ (by omega)
  have z3 : IntKind.i64.wrap (G : Int) = G := IntWalk.i64_in _ (by omega)
  have z4 : IntKind.i64.wrap (P : Int) = P := IntWalk.i64_in _ (by omega)
  have HRz : Hid (Rd (w.alloc (.cells #[.int .i64 0, .int .i64 0, .int .i64 0, .int .i64 0] 23)) (w.alloc (.cells #[.int .i64 0, .int .i64 0, .int .i64 0, .int .i64 0] 23)).heap.size A (bytesV l)) := (HR.out.below ((Below.refl _ w).alloc (Nat.le_refl _) _)).more (by simp)
  have HKz : Hid (Bk (w.alloc (.cells #[.int .i64 0, .int .i64 0, .int .i64 0, .int .i64 0] 23)) w.heap.size 23 [.int .i64 0, .int .i64 0, .int .i64 0, .int .i64 0]) := Bk.new w 23 _
  have HBz : Hid (Below w.heap.size w (w.alloc (.cells #[.int .i64 0, .int .i64 0, .int .i64 0, .int .i64 0] 23))) := (Below.refl _ w).alloc (Nat.le_refl _) _
  have HGa : Hid (Bk ((w.alloc (.cells #[.int .i64 0, .int .i64 0, .int .i64 0, .int .i64 0] 23)).alloc (.cells #[.int .i64 (J : Int), .int .i64 (I : Int), .int .i64 (G : Int), .int .i64 (P : Int)] 23)) (w.heap.size + 1) 23 [.int .i64 (J : Int), .int .i64 (I : Int), .int .i64 (G : Int), .int .i64 (P : Int)]) := by
    have := Bk.new (w.alloc (.cells #[.int .i64 0, .int .i64 0, .int .i64 0, .int .i64 0] 23)) 23 [.int .i64 (J : Int), .int .i64 (I : Int), .int .i64 (G : Int), .int .i64 (P : Int)]
    have e : (w.alloc (.cells #[.int .i64 0, .int .i64 0, .int .i64 0, .int .i64 0] 23)).heap.size = w.heap.size + 1 := by simp
    rw [e] at this
    exact this
  have hsz : (w.alloc (.cells #[.int .i64 0, .int .i64 0, .int .i64 0, .int .i64 0] 23)).heap.size = w.heap.size + 1 := by simp
  have Hsz := Lib.hid hsz
  clear hsz
  go_enter Try.func21, Try.ntmps21
  go_wp2_with (first
    | (go_at_call 32; (with_reducible refine (A4.out _ HRz.out).mono ?_); rintro e w' ⟨rfl, rfl⟩)
    | (go_at_call 32; (with_reducible refine (A6.out _ HRz.out).mono ?_); rintro e w' ⟨rfl, rfl⟩)
    | (go_at_call 32; (with_reducible refine (A8.out _ HRz.out).mono ?_); rintro e w' ⟨rfl, rfl⟩)
    | (go_at_call 32; (with_reducible refine (A10.out _ HRz.out).mono ?_); rintro e w' ⟨rfl, rfl⟩))
  have HBa : Hid (Below w.heap.size w ((w.alloc (.cells #[.int .i64 0, .int .i64 0, .int .i64 0, .int .i64 0] 23)).alloc (.cells #[.int .i64 (J : Int), .int .i64 (I : Int), .int .i64 (G : Int), .int .i64 (P : Int)] 23))) := HBz.out.alloc HBz.out.size _
  have HKa : Hid (Bk ((w.alloc (.cells #[.int .i64 0, .int .i64 0, .int .i64 0, .int .i64 0] 23)).alloc (.cells #[.int .i64 (J : Int), .int .i64 (I : Int), .int .i64 (G : Int), .int .i64 (P : Int)] 23)) w.heap.size 23 [.int .i64 0, .int .i64 0, .int .i64 0, .int .i64 0]) := HKz.out.below ((Below.refl _ _).alloc (Nat.le_refl _) _) HKz.out.lt
  obtain ⟨wa, hwa⟩ : ∃ wa, wa = (w.alloc (.cells #[.int .i64 0, .int .i64 0, .int .i64 0, .int .i64 0] 23)).alloc (.cells #[.int .i64 (J : Int), .int .i64 (I : Int), .int .i64 (G : Int), .int .i64 (P : Int)] 23) := ⟨_, rfl⟩
  rw [← hwa] at HBa HKa HGa ⊢
  clear hwa HRz HKz HBz Hsz A4 A6 A8 A10 z1 z2 z3 z4
  refine (rlay_no H.out _).mono ?_
  rintro e w2 ⟨rfl, hb2⟩
  have HK2 := Lib.hid (HKa.out.below hb2 HKa.out.lt)
  have c0 := HK2.out.cell 0
  have c1 := HK2.out.cell 1
  have c2 := HK2.out.cell 2
  have c3 := HK2.out.cell 3
  have f0 := HK2.out.frozen 0
  have f1 := HK2.out.frozen 1
  have f2 := HK2.out.frozen 2
  have f3 := HK2.out.frozen 3
  have HB2 := Lib.hid (HBa.out.trans (hb2.mono HBa.out.size))
  clear hb2
  go_wp2_with fail
  refine bodyPost_ret (v := .tuple #[zeroG, .int .i64 90]) (by simp [results, Try.results21, go_sem, zeroG, geoV, c0, c1, c2, c3]) rfl ⟨rfl, ?_⟩
  repeat (first | with_reducible exact HB2.out | with_reducible refine Below.setCell ?_ ?_ _)
  all_goals simp

set_option maxHeartbeats 1600000 in
set_option maxRecDepth 100000 in
theorem rtake_not (l : List UInt8) (A : Option Addr) (c : Nat) (w : World) (hl : l.length = 64) (hr : Rd w w.heap.size A (bytesV l)) (h : Valid (numL l 4) (numL l 6) (numL l 8) (numL l 10)) (hne : l ≠ superL (numL l 4) (numL l 6) (numL l 8) (numL l 10)) :
    Calls Try.prog 21 #[.slice A 64 c] w fun e w' => e = .returned (.tuple #[zeroG, .int .i64 90]) ∧ Below w.heap.size w w' := by
  have H := Lib.hid h
  have bJ := numL_lt l 4
  have bI := numL_lt l 6
  have bG := numL_lt l 8
  have bP := numL_lt l 10
  have Hl := Lib.hid hl
  have HR := Lib.hid hr
  have A4 : Hid (∀ w, Rd w w.heap.size A (bytesV l) → Calls Try.prog 32 #[.slice A 64 c, .int .i64 4, .int .i64 2] w fun e w' => e = .returned (.int .u64 (numL l 4 : Nat)) ∧ w = w') := fun w hr => at_any l A 64 c _ 4 2 w hl hr (by omega) (by omega) (by omega) (by omega)
  have A6 : Hid (∀ w, Rd w w.heap.size A (bytesV l) → Calls Try.prog 32 #[.slice A 64 c, .int .i64 6, .int .i64 2] w fun e w' => e = .returned (.int .u64 (numL l 6 : Nat)) ∧ w = w') := fun w hr => at_any l A 64 c _ 6 2 w hl hr (by omega) (by omega) (by omega) (by omega)
  have A8 : Hid (∀ w, Rd w w.heap.size A (bytesV l) → Calls Try.prog 32 #[.slice A 64 c, .int .i64 8, .int .i64 2] w fun e w' => e = .returned (.int .u64 (numL l 8 : Nat)) ∧ w = w') := fun w hr => at_any l A 64 c _ 8 2 w hl hr (by omega) (by omega) (by omega) (by omega)
  have A10 : Hid (∀ w, Rd w w.heap.size A (bytesV l) → Calls Try.prog 32 #[.slice A 64 c, .int .i64 10, .int .i64 2] w fun e w' => e = .returned (.int .u64 (numL l 10 : Nat)) ∧ w = w') := fun w hr => at_any l A 64 c _ 10 2 w hl hr (by omega) (by omega) (by omega) (by omega)
  have HS := Lib.hid (length_super (numL l 4) (numL l 6) (numL l 8) (numL l 10))
  have HLay : Hid (∀ w, Calls Try.prog 19 #[geoV (numL l 4) (numL l 6) (numL l 8) (numL l 10)] w fun e w' => ∃ v, e = .returned (.tuple #[v, .int .i64 0]) ∧ Made w (superL (numL l 4) (numL l 6) (numL l 8) (numL l 10)) v w') := fun w => rlay_yes H.out w
  generalize superL (numL l 4) (numL l 6) (numL l 8) (numL l 10) = S at *
  generalize numL l 4 = J at *
  generalize numL l 6 = I at *
  generalize numL l 8 = G at *
  generalize numL l 10 = P at *
  clear h hl hr
  have z1 : IntKind.i64.wrap (J : Int) = J := IntWalk.i64_in _ (by omega)
  have z2 : IntKind.i64.wrap (I : Int) = I := IntWalk.i64_in _ (by omega)
  have z3 : IntKind.i64.wrap (G : Int) = G := IntWalk.i64_in _ (by omega)
  have z4 : IntKind.i64.wrap (P : Int) = P := IntWalk.i64_in _ (by omega)
  have HRz : Hid (Rd (w.alloc (.cells #[.int .i64 0, .int .i64 0, .int .i64 0, .int .i64 0] 23)) (w.alloc (.cells #[.int .i64 0, .int .i64 0, .int .i64 0, .int .i64 0] 23)).heap.size A (bytesV l)) := (HR.out.below ((Below.refl _ w).alloc (Nat.le_refl _) _)).more (by simp)
  have HKz : Hid (Bk (w.alloc (.cells #[.int .i64 0, .int .i64 0, .int .i64 0, .int .i64 0] 23)) w.heap.size 23 [.int .i64 0, .int .i64 0, .int .i64 0, .int .i64 0]) := Bk.new w 23 _
  have HBz : Hid (Below w.heap.size w (w.alloc (.cells #[.int .i64 0, .int .i64 0, .int .i64 0, .int .i64 0] 23))) := (Below.refl _ w).alloc (Nat.le_refl _) _
  have HGa : Hid (Bk ((w.alloc (.cells #[.int .i64 0, .int .i64 0, .int .i64 0, .int .i64 0] 23)).alloc (.cells #[.int .i64 (J : Int), .int .i64 (I : Int), .int .i64 (G : Int), .int .i64 (P : Int)] 23)) (w.heap.size + 1) 23 [.int .i64 (J : Int), .int .i64 (I : Int), .int .i64 (G : Int), .int .i64 (P : Int)]) := by
    have := Bk.new (w.alloc (.cells #[.int .i64 0, .int .i64 0, .int .i64 0, .int .i64 0] 23)) 23 [.int .i64 (J : Int), .int .i64 (I : Int), .int .i64 (G : Int), .int .i64 (P : Int)]
    have e : (w.alloc (.cells #[.int .i64 0, .int .i64 0, .int .i64 0, .int .i64 0] 23)).heap.size = w.heap.size + 1 := by simp
    rw [e] at this
    exact this
  have hsz : (w.alloc (.cells #[.int .i64 0, .int .i64 0, .int .i64 0, .int .i64 0] 23)).heap.size = w.heap.size + 1 := by simp
  have Hsz := Lib.hid hsz
  clear hsz
  go_enter Try.func21, Try.ntmps21
  go_wp2_with (first
    | (go_at_call 32; (with_reducible refine (A4.out _ HRz.out).mono ?_); rintro e w' ⟨rfl, rfl⟩)
    | (go_at_call 32; (with_reducible refine (A6.out _ HRz.out).mono ?_); rintro e w' ⟨rfl, rfl⟩)
    | (go_at_call 32; (with_reducible refine (A8.out _ HRz.out).mono ?_); rintro e w' ⟨rfl, rfl⟩)
    | (go_at_call 32; (with_reducible refine (A10.out _ HRz.out).mono ?_); rintro e w' ⟨rfl, rfl⟩))
  have HBa : Hid (Below w.heap.size w ((w.alloc (.cells #[.int .i64 0, .int .i64 0, .int .i64 0, .int .i64 0] 23)).alloc (.cells #[.int .i64 (J : Int), .int .i64 (I : Int), .int .i64 (G : Int), .int .i64 (P : Int)] 23))) := HBz.out.alloc HBz.out.size _
  have HKa : Hid (Bk ((w.alloc (.cells #[.int .i64 0, .int .i64 0, .int .i64 0, .int .i64 0] 23)).alloc (.cells #[.int .i64 (J : Int), .int .i64 (I : Int), .int .i64 (G : Int), .int .i64 (P : Int)] 23)) w.heap.size 23 [.int .i64 0, .int .i64 0, .int .i64 0, .int .i64 0]) := HKz.out.below ((Below.refl _ _).alloc (Nat.le_refl _) _) HKz.out.lt
  obtain ⟨wa, hwa⟩ : ∃ wa, wa = (w.alloc (.cells #[.int .i64 0, .int .i64 0, .int .i64 0, .int .i64 0] 23)).alloc (.cells #[.int .i64 (J : Int), .int .i64 (I : Int), .int .i64 (G : Int), .int .i64 (P : Int)] 23) := ⟨_, rfl⟩
  rw [← hwa] at HBa HKa HGa ⊢
  clear hwa HRz HKz HBz Hsz A4 A6 A8 A10 z1 z2 z3 z4
  refine (HLay.out _).mono ?_
  rintro e w2 ⟨v, rfl, hown2, hb2⟩
  rw [HS.out] at hown2
  obtain ⟨_, A2, d2, rfl, hd2, _, hr2⟩ := own_rd hown2
  have HK2 := Lib.hid (HKa.out.below hb2 HKa.out.lt)
  have c0 := HK2.out.cell 0
  have c1 := HK2.out.cell 1
  have c2 := HK2.out.cell 2
  have c3 := HK2.out.cell 3
  have f0 := HK2.out.frozen 0
  have f1 := HK2.out.frozen 1
  have f2 := HK2.out.frozen 2
  have f3 := HK2.out.frozen 3
  have HB2 := Lib.hid (HBa.out.trans (hb2.mono HBa.out.size))
  have s1 := str_of (c := d2) HS.out hr2
  have s2 := str_of (c := c) Hl.out (HR.out.below HB2.out)
  have e1 : (S != l) = true := by simpa using Ne.symm hne
  have e2 : (S == l) = false := by simpa using Ne.symm hne
  clear hne
  clear hb2 hown2 hr2
  go_wp2_with fail
  refine bodyPost_ret (v := .tuple #[zeroG, .int .i64 90]) (by simp [results, Try.results21, go_sem, zeroG, geoV, c0, c1, c2, c3]) rfl ⟨rfl, ?_⟩
  repeat (first | with_reducible exact HB2.out | with_reducible refine Below.setCell ?_ ?_ _)
  all_goals simp

set_option maxHeartbeats 1600000 in
set_option maxRecDepth 100000 in
theorem rtake_yes (l : List UInt8) (A : Option Addr) (c : Nat) (w : World) (hl : l.length = 64) (hr : Rd w w.heap.size A (bytesV l)) (h : Valid (numL l 4) (numL l 6) (numL l 8) (numL l 10)) (hne : l = superL (numL l 4) (numL l 6) (numL l 8) (numL l 10)) :
    Calls Try.prog 21 #[.slice A 64 c] w fun e w' => e = .returned (.tuple #[geoV (numL l 4) (numL l 6) (numL l 8) (numL l 10), .int .i64 0]) ∧ Below w.heap.size w w' := by
  have H := Lib.hid h
  have Hne := Lib.hid hne
  clear hne
  have bJ := numL_lt l 4
  have bI := numL_lt l 6
  have bG := numL_lt l 8
  have bP := numL_lt l 10
  have Hl := Lib.hid hl
  have HR := Lib.hid hr
  have A4 : Hid (∀ w, Rd w w.heap.size A (bytesV l) → Calls Try.prog 32 #[.slice A 64 c, .int .i64 4, .int .i64 2] w fun e w' => e = .returned (.int .u64 (numL l 4 : Nat)) ∧ w = w') := fun w hr => at_any l A 64 c _ 4 2 w hl hr (by omega) (by omega) (by omega) (by omega)
  have A6 : Hid (∀ w, Rd w w.heap.size A (bytesV l) → Calls Try.prog 32 #[.slice A 64 c, .int .i64 6, .int .i64 2] w fun e w' => e = .returned (.int .u64 (numL l 6 : Nat)) ∧ w = w') := fun w hr => at_any l A 64 c _ 6 2 w hl hr (by omega) (by omega) (by omega) (by omega)
  have A8 : Hid (∀ w, Rd w w.heap.size A (bytesV l) → Calls Try.prog 32 #[.slice A 64 c, .int .i64 8, .int .i64 2] w fun e w' => e = .returned (.int .u64 (numL l 8 : Nat)) ∧ w = w') := fun w hr => at_any l A 64 c _ 8 2 w hl hr (by omega) (by omega) (by omega) (by omega)
  have A10 : Hid (∀ w, Rd w w.heap.size A (bytesV l) → Calls Try.prog 32 #[.slice A 64 c, .int .i64 10, .int .i64 2] w fun e w' => e = .returned (.int .u64 (numL l 10 : Nat)) ∧ w = w') := fun w hr => at_any l A 64 c _ 10 2 w hl hr (by omega) (by omega) (by omega) (by omega)
  have HS := Lib.hid (length_super (numL l 4) (numL l 6) (numL l 8) (numL l 10))
  have HLay : Hid (∀ w, Calls Try.prog 19 #[geoV (numL l 4) (numL l 6) (numL l 8) (numL l 10)] w fun e w' => ∃ v, e = .returned (.tuple #[v, .int .i64 0]) ∧ Made w (superL (numL l 4) (numL l 6) (numL l 8) (numL l 10)) v w') := fun w => rlay_yes H.out w
  generalize superL (numL l 4) (numL l 6) (numL l 8) (numL l 10) = S at *
  generalize numL l 4 = J at *
  generalize numL l 6 = I at *
  generalize numL l 8 = G at *
  generalize numL l 10 = P at *
  clear h hl hr
  have z1 : IntKind.i64.wrap (J : Int) = J := IntWalk.i64_in _ (by omega)
  have z2 : IntKind.i64.wrap (I : Int) = I := IntWalk.i64_in _ (by omega)
  have z3 : IntKind.i64.wrap (G : Int) = G := IntWalk.i64_in _ (by omega)
  have z4 : IntKind.i64.wrap (P : Int) = P := IntWalk.i64_in _ (by omega)
  have HRz : Hid (Rd (w.alloc (.cells #[.int .i64 0, .int .i64 0, .int .i64 0, .int .i64 0] 23)) (w.alloc (.cells #[.int .i64 0, .int .i64 0, .int .i64 0, .int .i64 0] 23)).heap.size A (bytesV l)) := (HR.out.below ((Below.refl _ w).alloc (Nat.le_refl _) _)).more (by simp)
  have HKz : Hid (Bk (w.alloc (.cells #[.int .i64 0, .int .i64 0, .int .i64 0, .int .i64 0] 23)) w.heap.size 23 [.int .i64 0, .int .i64 0, .int .i64 0, .int .i64 0]) := Bk.new w 23 _
  have HBz : Hid (Below w.heap.size w (w.alloc (.cells #[.int .i64 0, .int .i64 0, .int .i64 0, .int .i64 0] 23))) := (Below.refl _ w).alloc (Nat.le_refl _) _
  have HGa : Hid (Bk ((w.alloc (.cells #[.int .i64 0, .int .i64 0, .int .i64 0, .int .i64 0] 23)).alloc (.cells #[.int .i64 (J : Int), .int .i64 (I : Int), .int .i64 (G : Int), .int .i64 (P : Int)] 23)) (w.heap.size + 1) 23 [.int .i64 (J : Int), .int .i64 (I : Int), .int .i64 (G : Int), .int .i64 (P : Int)]) := by
    have := Bk.new (w.alloc (.cells #[.int .i64 0, .int .i64 0, .int .i64 0, .int .i64 0] 23)) 23 [.int .i64 (J : Int), .int .i64 (I : Int), .int .i64 (G : Int), .int .i64 (P : Int)]
    have e : (w.alloc (.cells #[.int .i64 0, .int .i64 0, .int .i64 0, .int .i64 0] 23)).heap.size = w.heap.size + 1 := by simp
    rw [e] at this
    exact this
  have hsz : (w.alloc (.cells #[.int .i64 0, .int .i64 0, .int .i64 0, .int .i64 0] 23)).heap.size = w.heap.size + 1 := by simp
  have Hsz := Lib.hid hsz
  clear hsz
  go_enter Try.func21, Try.ntmps21
  go_wp2_with (first
    | (go_at_call 32; (with_reducible refine (A4.out _ HRz.out).mono ?_); rintro e w' ⟨rfl, rfl⟩)
    | (go_at_call 32; (with_reducible refine (A6.out _ HRz.out).mono ?_); rintro e w' ⟨rfl, rfl⟩)
    | (go_at_call 32; (with_reducible refine (A8.out _ HRz.out).mono ?_); rintro e w' ⟨rfl, rfl⟩)
    | (go_at_call 32; (with_reducible refine (A10.out _ HRz.out).mono ?_); rintro e w' ⟨rfl, rfl⟩))
  have HBa : Hid (Below w.heap.size w ((w.alloc (.cells #[.int .i64 0, .int .i64 0, .int .i64 0, .int .i64 0] 23)).alloc (.cells #[.int .i64 (J : Int), .int .i64 (I : Int), .int .i64 (G : Int), .int .i64 (P : Int)] 23))) := HBz.out.alloc HBz.out.size _
  have HKa : Hid (Bk ((w.alloc (.cells #[.int .i64 0, .int .i64 0, .int .i64 0, .int .i64 0] 23)).alloc (.cells #[.int .i64 (J : Int), .int .i64 (I : Int), .int .i64 (G : Int), .int .i64 (P : Int)] 23)) w.heap.size 23 [.int .i64 0, .int .i64 0, .int .i64 0, .int .i64 0]) := HKz.out.below ((Below.refl _ _).alloc (Nat.le_refl _) _) HKz.out.lt
  obtain ⟨wa, hwa⟩ : ∃ wa, wa = (w.alloc (.cells #[.int .i64 0, .int .i64 0, .int .i64 0, .int .i64 0] 23)).alloc (.cells #[.int .i64 (J : Int), .int .i64 (I : Int), .int .i64 (G : Int), .int .i64 (P : Int)] 23) := ⟨_, rfl⟩
  rw [← hwa] at HBa HKa HGa ⊢
  clear hwa HRz HKz HBz Hsz A4 A6 A8 A10 z1 z2 z3 z4
  refine (HLay.out _).mono ?_
  rintro e w2 ⟨v, rfl, hown2, hb2⟩
  rw [HS.out] at hown2
  obtain ⟨_, A2, d2, rfl, hd2, _, hr2⟩ := own_rd hown2
  have HK2 := Lib.hid (HKa.out.below hb2 HKa.out.lt)
  have c0 := HK2.out.cell 0
  have c1 := HK2.out.cell 1
  have c2 := HK2.out.cell 2
  have c3 := HK2.out.cell 3
  have f0 := HK2.out.frozen 0
  have f1 := HK2.out.frozen 1
  have f2 := HK2.out.frozen 2
  have f3 := HK2.out.frozen 3
  have HB2 := Lib.hid (HBa.out.trans (hb2.mono HBa.out.size))
  have s1 := str_of (c := d2) HS.out hr2
  have s2 := str_of (c := c) Hl.out (HR.out.below HB2.out)
  have e1 : (S != l) = false := by rw [Hne.out]; simp
  have e2 : (S == l) = true := by rw [Hne.out]; simp
  have HG2 := Lib.hid (HGa.out.below hb2 HGa.out.lt)
  have g0 := HG2.out.cell 0
  have g1 := HG2.out.cell 1
  have g2 := HG2.out.cell 2
  have g3 := HG2.out.cell 3
  clear hb2 hown2 hr2
  go_wp2_with fail
  refine bodyPost_ret (v := .tuple #[geoV J I G P, .int .i64 0]) (by simp [results, Try.results21, go_sem, geoV, c0, c1, c2, c3]) rfl ⟨rfl, ?_⟩
  repeat (first | with_reducible exact HB2.out | with_reducible refine Below.setCell ?_ ?_ _)
  all_goals simp

end Go.Proofs.Ytcedpmakomhigaa
