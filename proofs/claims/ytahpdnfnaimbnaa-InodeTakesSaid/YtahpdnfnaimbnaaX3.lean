/-
  Whether an inode is valid: package inode's Right and the document's.
-/
import Derived.Test.YtahpdnfnaimbnaaX2
namespace Go.Proofs.Ytahpdnfnaimbnaa.Inode
open Go.RowKit

theorem not_row {k r : Nat} {l s : Int} {p : List Int} (hk : k ≠ 0) (h : ¬ r < 16) : rightB ⟨k, r, l, s, p⟩ = false := rightB_no fun hR => by
  rcases hR with hR | hR
  · exact hk (congrArg Ino.k hR)
  · exact h hR.row
theorem not_l {k r : Nat} {l s : Int} {p : List Int} (hk : k ≠ 0) (h : upB 65535 l = false) : rightB ⟨k, r, l, s, p⟩ = false := rightB_no fun hR => by
  rcases hR with hR | hR
  · exact hk (congrArg Ino.k hR)
  · rw [upB_iff.2 ⟨hR.l0, hR.l1⟩] at h; cases h
theorem not_s {k r : Nat} {l s : Int} {p : List Int} (hk : k ≠ 0) (h : upB 3840 s = false) : rightB ⟨k, r, l, s, p⟩ = false := rightB_no fun hR => by
  rcases hR with hR | hR
  · exact hk (congrArg Ino.k hR)
  · rw [upB_iff.2 ⟨hR.s0, hR.s1⟩] at h; cases h
theorem not_kind {k r : Nat} {l s : Int} {p : List Int} (h : 2 < k) : rightB ⟨k, r, l, s, p⟩ = false := rightB_no fun hR => by
  rcases hR with hR | hR
  · have := congrArg Ino.k hR; simp [Ino.z] at this; omega
  · have := hR.kind; simp only at this; omega
theorem is_ptr {k r : Nat} {l s : Int} {p : List Int} (hk : k = 1 ∨ k = 2) (h : r < 16) (hl : upB 65535 l = true) (hs : upB 3840 s = true) : rightB ⟨k, r, l, s, p⟩ = p.all ptrB := by
  have h1 := upB_iff.1 hl
  have h2 := upB_iff.1 hs
  cases hp : p.all ptrB
  · refine rightB_no fun hR => ?_
    rcases hR with hR | hR
    · have := congrArg Ino.k hR; simp [Ino.z] at this; omega
    · have := hR.ptr; simp only at this; rw [hp] at this; cases this
  · exact rightB_yes (.inr ⟨hk, h, h1.1, h1.2, h2.1, h2.2, hp⟩)
theorem is_free {r : Nat} {l s : Int} {p : List Int} : rightB ⟨0, r, l, s, p⟩ = decB ((⟨0, r, l, s, p⟩ : Ino) = .z) := by
  by_cases h : (⟨0, r, l, s, p⟩ : Ino) = .z
  · rw [decB_yes h]; exact rightB_yes (.inl h)
  · rw [decB_no h]
    refine rightB_no fun hR => ?_
    rcases hR with hR | hR
    · exact h hR
    · have := hR.kind; simp only at this; omega

/-- An inode that was boxed, behind a call. -/
theorem kept_ino {w w1 : World} {a0 a1 a2 a3 a4 a5 a6 a7 a8 a9 a10 a11 a12 a13 : Value} (hb : Below (w.alloc (.cells #[a0, a1, a2, a3, a4, a5, a6, a7, a8, a9, a10, a11, a12, a13] 24)).heap.size (w.alloc (.cells #[a0, a1, a2, a3, a4, a5, a6, a7, a8, a9, a10, a11, a12, a13] 24)) w1) :
    Bk w1 w.heap.size 24 [a0, a1, a2, a3, a4, a5, a6, a7, a8, a9, a10, a11, a12, a13] ∧ Below w.heap.size w w1 ∧ w.heap.size < w1.heap.size := by
  have hk : Bk (w.alloc (.cells #[a0, a1, a2, a3, a4, a5, a6, a7, a8, a9, a10, a11, a12, a13] 24)) w.heap.size 24 [a0, a1, a2, a3, a4, a5, a6, a7, a8, a9, a10, a11, a12, a13] := Bk.new w 24 _
  exact ⟨hk.below hb (by simp), (alloc_below w _).trans (hb.mono (by simp)), by have := hb.size; simp at this; omega⟩
theorem rd_ten (w : World) (p : List Int) : Rd (w.alloc (.cells (intsV p).toArray 51)) (w.heap.size + 1) (some ⟨w.heap.size, 0, none⟩) (intsV p) :=
  .inr ⟨w.heap.size, 0, rfl, Nat.lt_succ_self _, fun i v hv => by
    rw [Nat.zero_add, World.cell?_alloc_at _ _ _ _ rfl]
    simpa using hv⟩

set_option maxHeartbeats 1600000 in
set_option maxRecDepth 100000 in
theorem right_used1 (r : Nat) (l s p0 p1 p2 p3 p4 p5 p6 p7 p8 p9 : Int) (w : World) (hr : r < 256) :
    Calls Try.prog 13 #[.agg #[.int .u8 1, .int .u8 (r : Int), .int .i64 l, .int .i64 s, .int .i64 p0, .int .i64 p1, .int .i64 p2, .int .i64 p3, .int .i64 p4, .int .i64 p5, .int .i64 p6, .int .i64 p7, .int .i64 p8, .int .i64 p9]] w fun e w' => e = .returned (.bool (rightB (⟨1, r, l, s, [p0, p1, p2, p3, p4, p5, p6, p7, p8, p9]⟩ : Ino))) ∧ Below w.heap.size w w' := by
  have HPF : Hid (∀ W : World, Calls Try.prog 27 #[.agg #[.int .u8 1, .int .u8 (r : Int), .int .i64 l, .int .i64 s, .int .i64 p0, .int .i64 p1, .int .i64 p2, .int .i64 p3, .int .i64 p4, .int .i64 p5, .int .i64 p6, .int .i64 p7, .int .i64 p8, .int .i64 p9]] W fun e w' => e = .returned (.agg #[.int .i64 p0, .int .i64 p1, .int .i64 p2, .int .i64 p3, .int .i64 p4, .int .i64 p5, .int .i64 p6, .int .i64 p7, .int .i64 p8, .int .i64 p9]) ∧ Below W.heap.size W w') := fun W => pof_ten 1 r l s p0 p1 p2 p3 p4 p5 p6 p7 p8 p9 W
  by_cases hrow : r < 16
  rotate_left
  · have HV := Lib.hid (not_row (l := l) (s := s) (p := [p0, p1, p2, p3, p4, p5, p6, p7, p8, p9]) (show 1 ≠ 0 by decide) hrow)
    have q : decide ((r : Int) < 16) = false := decide_eq_false (by omega)
    clear hrow hr
    go_enter Try.func13, Try.ntmps13
    go_wp2_with (first | (go_at_call 27; (with_reducible refine (HPF.out _).mono ?_); rintro e w1 ⟨he, hb1⟩; obtain rfl := he; obtain ⟨hk1, hb1', hs1⟩ := kept_ino hb1; obtain ⟨c0, c1, c2, c3, -⟩ := ino_cells hk1; have HB1 := Lib.hid hb1'; have HRD := Lib.hid (show Rd (w1.alloc (.cells #[.int .i64 p0, .int .i64 p1, .int .i64 p2, .int .i64 p3, .int .i64 p4, .int .i64 p5, .int .i64 p6, .int .i64 p7, .int .i64 p8, .int .i64 p9] 51)) (w1.heap.size + 1) (some ⟨w1.heap.size, 0, none⟩) (intsV [p0, p1, p2, p3, p4, p5, p6, p7, p8, p9]) from rd_ten w1 [p0, p1, p2, p3, p4, p5, p6, p7, p8, p9]); clear hb1 hb1' hk1))
    go_ret
    refine ⟨by rw [HV.out]; rfl, ?_⟩
    repeat (first | with_reducible exact HB1.out | with_reducible refine below_drewN ?_ _ | with_reducible refine Below.setCell ?_ ?_ _ | with_reducible refine Below.alloc ?_ ?_ _)
    all_goals (first | omega | (simp <;> omega))
  have q : decide ((r : Int) < 16) = true := decide_eq_true (by omega)
  cases hl : upB 65535 l
  · have HV := Lib.hid (not_l (r := r) (s := s) (p := [p0, p1, p2, p3, p4, p5, p6, p7, p8, p9]) (show 1 ≠ 0 by decide) hl)
    have HL := Lib.hid hl
    clear hl hrow hr
    go_enter Try.func13, Try.ntmps13
    go_wp2_with (first | (go_at_call 27; (with_reducible refine (HPF.out _).mono ?_); rintro e w1 ⟨he, hb1⟩; obtain rfl := he; obtain ⟨hk1, hb1', hs1⟩ := kept_ino hb1; obtain ⟨c0, c1, c2, c3, -⟩ := ino_cells hk1; have HB1 := Lib.hid hb1'; have HRD := Lib.hid (show Rd (w1.alloc (.cells #[.int .i64 p0, .int .i64 p1, .int .i64 p2, .int .i64 p3, .int .i64 p4, .int .i64 p5, .int .i64 p6, .int .i64 p7, .int .i64 p8, .int .i64 p9] 51)) (w1.heap.size + 1) (some ⟨w1.heap.size, 0, none⟩) (intsV [p0, p1, p2, p3, p4, p5, p6, p7, p8, p9]) from rd_ten w1 [p0, p1, p2, p3, p4, p5, p6, p7, p8, p9]); clear hb1 hb1' hk1) | (go_at_call 32; (with_reducible refine (up_any 65535 l _).mono ?_); rintro e w' ⟨he, hw'⟩; obtain rfl := he; obtain rfl := hw'; rw [HL.out]))
    go_ret
    refine ⟨by rw [HV.out]; rfl, ?_⟩
    repeat (first | with_reducible exact HB1.out | with_reducible refine below_drewN ?_ _ | with_reducible refine Below.setCell ?_ ?_ _ | with_reducible refine Below.alloc ?_ ?_ _)
    all_goals (first | omega | (simp <;> omega))
  cases hs : upB 3840 s
  · have HV := Lib.hid (not_s (r := r) (l := l) (p := [p0, p1, p2, p3, p4, p5, p6, p7, p8, p9]) (show 1 ≠ 0 by decide) hs)
    have HL := Lib.hid hl
    have HS := Lib.hid hs
    clear hl hs hrow hr
    go_enter Try.func13, Try.ntmps13
    go_wp2_with (first | (go_at_call 27; (with_reducible refine (HPF.out _).mono ?_); rintro e w1 ⟨he, hb1⟩; obtain rfl := he; obtain ⟨hk1, hb1', hs1⟩ := kept_ino hb1; obtain ⟨c0, c1, c2, c3, -⟩ := ino_cells hk1; have HB1 := Lib.hid hb1'; have HRD := Lib.hid (show Rd (w1.alloc (.cells #[.int .i64 p0, .int .i64 p1, .int .i64 p2, .int .i64 p3, .int .i64 p4, .int .i64 p5, .int .i64 p6, .int .i64 p7, .int .i64 p8, .int .i64 p9] 51)) (w1.heap.size + 1) (some ⟨w1.heap.size, 0, none⟩) (intsV [p0, p1, p2, p3, p4, p5, p6, p7, p8, p9]) from rd_ten w1 [p0, p1, p2, p3, p4, p5, p6, p7, p8, p9]); clear hb1 hb1' hk1) | (go_at_call 32; (with_reducible refine (up_any 65535 l _).mono ?_); rintro e w' ⟨he, hw'⟩; obtain rfl := he; obtain rfl := hw'; rw [HL.out]) | (go_at_call 32; (with_reducible refine (up_any 3840 s _).mono ?_); rintro e w' ⟨he, hw'⟩; obtain rfl := he; obtain rfl := hw'; rw [HS.out]))
    go_ret
    refine ⟨by rw [HV.out]; rfl, ?_⟩
    repeat (first | with_reducible exact HB1.out | with_reducible refine below_drewN ?_ _ | with_reducible refine Below.setCell ?_ ?_ _ | with_reducible refine Below.alloc ?_ ?_ _)
    all_goals (first | omega | (simp <;> omega))
  · have HV := Lib.hid (is_ptr (p := [p0, p1, p2, p3, p4, p5, p6, p7, p8, p9]) (show 1 = 1 ∨ 1 = 2 by decide) hrow hl hs)
    have HL := Lib.hid hl
    have HS := Lib.hid hs
    clear hl hs hrow hr
    go_enter Try.func13, Try.ntmps13
    go_wp2_with (first | (go_at_call 27; (with_reducible refine (HPF.out _).mono ?_); rintro e w1 ⟨he, hb1⟩; obtain rfl := he; obtain ⟨hk1, hb1', hs1⟩ := kept_ino hb1; obtain ⟨c0, c1, c2, c3, -⟩ := ino_cells hk1; have HB1 := Lib.hid hb1'; have HRD := Lib.hid (show Rd (w1.alloc (.cells #[.int .i64 p0, .int .i64 p1, .int .i64 p2, .int .i64 p3, .int .i64 p4, .int .i64 p5, .int .i64 p6, .int .i64 p7, .int .i64 p8, .int .i64 p9] 51)) (w1.heap.size + 1) (some ⟨w1.heap.size, 0, none⟩) (intsV [p0, p1, p2, p3, p4, p5, p6, p7, p8, p9]) from rd_ten w1 [p0, p1, p2, p3, p4, p5, p6, p7, p8, p9]); clear hb1 hb1' hk1) | (go_at_call 32; (with_reducible refine (up_any 65535 l _).mono ?_); rintro e w' ⟨he, hw'⟩; obtain rfl := he; obtain rfl := hw'; rw [HL.out]) | (go_at_call 32; (with_reducible refine (up_any 3840 s _).mono ?_); rintro e w' ⟨he, hw'⟩; obtain rfl := he; obtain rfl := hw'; rw [HS.out]) | (go_at_call 33; (with_reducible refine (ptrs_any [p0, p1, p2, p3, p4, p5, p6, p7, p8, p9] _ 10 10 _ _ rfl HRD.out (by omega)).mono ?_); rintro e w' ⟨he, hw'⟩; obtain rfl := he; obtain rfl := hw'; rw [← HV.out]))
    go_ret
    refine ⟨rfl, ?_⟩
    repeat (first | with_reducible exact HB1.out | with_reducible refine below_drewN ?_ _ | with_reducible refine Below.setCell ?_ ?_ _ | with_reducible refine Below.alloc ?_ ?_ _)
    all_goals (first | omega | (simp <;> omega))

set_option maxHeartbeats 1600000 in
set_option maxRecDepth 100000 in
theorem right_used2 (r : Nat) (l s p0 p1 p2 p3 p4 p5 p6 p7 p8 p9 : Int) (w : World) (hr : r < 256) :
    Calls Try.prog 13 #[.agg #[.int .u8 2, .int .u8 (r : Int), .int .i64 l, .int .i64 s, .int .i64 p0, .int .i64 p1, .int .i64 p2, .int .i64 p3, .int .i64 p4, .int .i64 p5, .int .i64 p6, .int .i64 p7, .int .i64 p8, .int .i64 p9]] w fun e w' => e = .returned (.bool (rightB (⟨2, r, l, s, [p0, p1, p2, p3, p4, p5, p6, p7, p8, p9]⟩ : Ino))) ∧ Below w.heap.size w w' := by
  have HPF : Hid (∀ W : World, Calls Try.prog 27 #[.agg #[.int .u8 2, .int .u8 (r : Int), .int .i64 l, .int .i64 s, .int .i64 p0, .int .i64 p1, .int .i64 p2, .int .i64 p3, .int .i64 p4, .int .i64 p5, .int .i64 p6, .int .i64 p7, .int .i64 p8, .int .i64 p9]] W fun e w' => e = .returned (.agg #[.int .i64 p0, .int .i64 p1, .int .i64 p2, .int .i64 p3, .int .i64 p4, .int .i64 p5, .int .i64 p6, .int .i64 p7, .int .i64 p8, .int .i64 p9]) ∧ Below W.heap.size W w') := fun W => pof_ten 2 r l s p0 p1 p2 p3 p4 p5 p6 p7 p8 p9 W
  by_cases hrow : r < 16
  rotate_left
  · have HV := Lib.hid (not_row (l := l) (s := s) (p := [p0, p1, p2, p3, p4, p5, p6, p7, p8, p9]) (show 2 ≠ 0 by decide) hrow)
    have q : decide ((r : Int) < 16) = false := decide_eq_false (by omega)
    clear hrow hr
    go_enter Try.func13, Try.ntmps13
    go_wp2_with (first | (go_at_call 27; (with_reducible refine (HPF.out _).mono ?_); rintro e w1 ⟨he, hb1⟩; obtain rfl := he; obtain ⟨hk1, hb1', hs1⟩ := kept_ino hb1; obtain ⟨c0, c1, c2, c3, -⟩ := ino_cells hk1; have HB1 := Lib.hid hb1'; have HRD := Lib.hid (show Rd (w1.alloc (.cells #[.int .i64 p0, .int .i64 p1, .int .i64 p2, .int .i64 p3, .int .i64 p4, .int .i64 p5, .int .i64 p6, .int .i64 p7, .int .i64 p8, .int .i64 p9] 51)) (w1.heap.size + 1) (some ⟨w1.heap.size, 0, none⟩) (intsV [p0, p1, p2, p3, p4, p5, p6, p7, p8, p9]) from rd_ten w1 [p0, p1, p2, p3, p4, p5, p6, p7, p8, p9]); clear hb1 hb1' hk1))
    go_ret
    refine ⟨by rw [HV.out]; rfl, ?_⟩
    repeat (first | with_reducible exact HB1.out | with_reducible refine below_drewN ?_ _ | with_reducible refine Below.setCell ?_ ?_ _ | with_reducible refine Below.alloc ?_ ?_ _)
    all_goals (first | omega | (simp <;> omega))
  have q : decide ((r : Int) < 16) = true := decide_eq_true (by omega)
  cases hl : upB 65535 l
  · have HV := Lib.hid (not_l (r := r) (s := s) (p := [p0, p1, p2, p3, p4, p5, p6, p7, p8, p9]) (show 2 ≠ 0 by decide) hl)
    have HL := Lib.hid hl
    clear hl hrow hr
    go_enter Try.func13, Try.ntmps13
    go_wp2_with (first | (go_at_call 27; (with_reducible refine (HPF.out _).mono ?_); rintro e w1 ⟨he, hb1⟩; obtain rfl := he; obtain ⟨hk1, hb1', hs1⟩ := kept_ino hb1; obtain ⟨c0, c1, c2, c3, -⟩ := ino_cells hk1; have HB1 := Lib.hid hb1'; have HRD := Lib.hid (show Rd (w1.alloc (.cells #[.int .i64 p0, .int .i64 p1, .int .i64 p2, .int .i64 p3, .int .i64 p4, .int .i64 p5, .int .i64 p6, .int .i64 p7, .int .i64 p8, .int .i64 p9] 51)) (w1.heap.size + 1) (some ⟨w1.heap.size, 0, none⟩) (intsV [p0, p1, p2, p3, p4, p5, p6, p7, p8, p9]) from rd_ten w1 [p0, p1, p2, p3, p4, p5, p6, p7, p8, p9]); clear hb1 hb1' hk1) | (go_at_call 32; (with_reducible refine (up_any 65535 l _).mono ?_); rintro e w' ⟨he, hw'⟩; obtain rfl := he; obtain rfl := hw'; rw [HL.out]))
    go_ret
    refine ⟨by rw [HV.out]; rfl, ?_⟩
    repeat (first | with_reducible exact HB1.out | with_reducible refine below_drewN ?_ _ | with_reducible refine Below.setCell ?_ ?_ _ | with_reducible refine Below.alloc ?_ ?_ _)
    all_goals (first | omega | (simp <;> omega))
  cases hs : upB 3840 s
  · have HV := Lib.hid (not_s (r := r) (l := l) (p := [p0, p1, p2, p3, p4, p5, p6, p7, p8, p9]) (show 2 ≠ 0 by decide) hs)
    have HL := Lib.hid hl
    have HS := Lib.hid hs
    clear hl hs hrow hr
    go_enter Try.func13, Try.ntmps13
    go_wp2_with (first | (go_at_call 27; (with_reducible refine (HPF.out _).mono ?_); rintro e w1 ⟨he, hb1⟩; obtain rfl := he; obtain ⟨hk1, hb1', hs1⟩ := kept_ino hb1; obtain ⟨c0, c1, c2, c3, -⟩ := ino_cells hk1; have HB1 := Lib.hid hb1'; have HRD := Lib.hid (show Rd (w1.alloc (.cells #[.int .i64 p0, .int .i64 p1, .int .i64 p2, .int .i64 p3, .int .i64 p4, .int .i64 p5, .int .i64 p6, .int .i64 p7, .int .i64 p8, .int .i64 p9] 51)) (w1.heap.size + 1) (some ⟨w1.heap.size, 0, none⟩) (intsV [p0, p1, p2, p3, p4, p5, p6, p7, p8, p9]) from rd_ten w1 [p0, p1, p2, p3, p4, p5, p6, p7, p8, p9]); clear hb1 hb1' hk1) | (go_at_call 32; (with_reducible refine (up_any 65535 l _).mono ?_); rintro e w' ⟨he, hw'⟩; obtain rfl := he; obtain rfl := hw'; rw [HL.out]) | (go_at_call 32; (with_reducible refine (up_any 3840 s _).mono ?_); rintro e w' ⟨he, hw'⟩; obtain rfl := he; obtain rfl := hw'; rw [HS.out]))
    go_ret
    refine ⟨by rw [HV.out]; rfl, ?_⟩
    repeat (first | with_reducible exact HB1.out | with_reducible refine below_drewN ?_ _ | with_reducible refine Below.setCell ?_ ?_ _ | with_reducible refine Below.alloc ?_ ?_ _)
    all_goals (first | omega | (simp <;> omega))
  · have HV := Lib.hid (is_ptr (p := [p0, p1, p2, p3, p4, p5, p6, p7, p8, p9]) (show 2 = 1 ∨ 2 = 2 by decide) hrow hl hs)
    have HL := Lib.hid hl
    have HS := Lib.hid hs
    clear hl hs hrow hr
    go_enter Try.func13, Try.ntmps13
    go_wp2_with (first | (go_at_call 27; (with_reducible refine (HPF.out _).mono ?_); rintro e w1 ⟨he, hb1⟩; obtain rfl := he; obtain ⟨hk1, hb1', hs1⟩ := kept_ino hb1; obtain ⟨c0, c1, c2, c3, -⟩ := ino_cells hk1; have HB1 := Lib.hid hb1'; have HRD := Lib.hid (show Rd (w1.alloc (.cells #[.int .i64 p0, .int .i64 p1, .int .i64 p2, .int .i64 p3, .int .i64 p4, .int .i64 p5, .int .i64 p6, .int .i64 p7, .int .i64 p8, .int .i64 p9] 51)) (w1.heap.size + 1) (some ⟨w1.heap.size, 0, none⟩) (intsV [p0, p1, p2, p3, p4, p5, p6, p7, p8, p9]) from rd_ten w1 [p0, p1, p2, p3, p4, p5, p6, p7, p8, p9]); clear hb1 hb1' hk1) | (go_at_call 32; (with_reducible refine (up_any 65535 l _).mono ?_); rintro e w' ⟨he, hw'⟩; obtain rfl := he; obtain rfl := hw'; rw [HL.out]) | (go_at_call 32; (with_reducible refine (up_any 3840 s _).mono ?_); rintro e w' ⟨he, hw'⟩; obtain rfl := he; obtain rfl := hw'; rw [HS.out]) | (go_at_call 33; (with_reducible refine (ptrs_any [p0, p1, p2, p3, p4, p5, p6, p7, p8, p9] _ 10 10 _ _ rfl HRD.out (by omega)).mono ?_); rintro e w' ⟨he, hw'⟩; obtain rfl := he; obtain rfl := hw'; rw [← HV.out]))
    go_ret
    refine ⟨rfl, ?_⟩
    repeat (first | with_reducible exact HB1.out | with_reducible refine below_drewN ?_ _ | with_reducible refine Below.setCell ?_ ?_ _ | with_reducible refine Below.alloc ?_ ?_ _)
    all_goals (first | omega | (simp <;> omega))

set_option maxHeartbeats 1600000 in
set_option maxRecDepth 100000 in
theorem right_ten (k r : Nat) (l s p0 p1 p2 p3 p4 p5 p6 p7 p8 p9 : Int) (w : World) (hk : k < 256) (hr : r < 256) :
    Calls Try.prog 13 #[.agg #[.int .u8 (k : Int), .int .u8 (r : Int), .int .i64 l, .int .i64 s, .int .i64 p0, .int .i64 p1, .int .i64 p2, .int .i64 p3, .int .i64 p4, .int .i64 p5, .int .i64 p6, .int .i64 p7, .int .i64 p8, .int .i64 p9]] w fun e w' => e = .returned (.bool (rightB (⟨k, r, l, s, [p0, p1, p2, p3, p4, p5, p6, p7, p8, p9]⟩ : Ino))) ∧ Below w.heap.size w w' := by
  by_cases h1 : k = 1
  · subst h1
    exact right_used1 r l s p0 p1 p2 p3 p4 p5 p6 p7 p8 p9 w hr
  by_cases h2 : k = 2
  · subst h2
    exact right_used2 r l s p0 p1 p2 p3 p4 p5 p6 p7 p8 p9 w hr
  by_cases h0 : k = 0
  · subst h0
    have hg := guard_at24
    have HV := Lib.hid (is_free (r := r) (l := l) (s := s) (p := [p0, p1, p2, p3, p4, p5, p6, p7, p8, p9]))
    have he : ∀ W, (binOp .eql 24 (.agg #[.int .u8 0, .int .u8 (r : Int), .int .i64 l, .int .i64 s, .int .i64 p0, .int .i64 p1, .int .i64 p2, .int .i64 p3, .int .i64 p4, .int .i64 p5, .int .i64 p6, .int .i64 p7, .int .i64 p8, .int .i64 p9]) (.agg #[.int .u8 0, .int .u8 0, .int .i64 0, .int .i64 0, .int .i64 0, .int .i64 0, .int .i64 0, .int .i64 0, .int .i64 0, .int .i64 0, .int .i64 0, .int .i64 0, .int .i64 0, .int .i64 0])).run Try.prog W = .ok (.bool (decB ((⟨0, r, l, s, [p0, p1, p2, p3, p4, p5, p6, p7, p8, p9]⟩ : Ino) = .z))) W := fun W => ino_eql W (⟨0, r, l, s, [p0, p1, p2, p3, p4, p5, p6, p7, p8, p9]⟩ : Ino) .z ⟨rfl, show 0 < 256 by decide, hr⟩ Oki.z
    rw [← HV.out] at he
    clear hk hr h1 h2
    show Calls Try.prog 13 #[.agg #[.int .u8 0, .int .u8 (r : Int), .int .i64 l, .int .i64 s, .int .i64 p0, .int .i64 p1, .int .i64 p2, .int .i64 p3, .int .i64 p4, .int .i64 p5, .int .i64 p6, .int .i64 p7, .int .i64 p8, .int .i64 p9]] w _
    generalize rightB (⟨0, r, l, s, [p0, p1, p2, p3, p4, p5, p6, p7, p8, p9]⟩ : Ino) = b at *
    go_enter Try.func13, Try.ntmps13
    go_wp2
    go_ret
    refine ⟨rfl, ?_⟩
    repeat (first | with_reducible exact Below.refl _ _ | with_reducible refine below_drewN ?_ _ | with_reducible refine Below.setCell ?_ ?_ _ | with_reducible refine Below.alloc ?_ ?_ _)
    all_goals (first | omega | (simp <;> omega))
  · have HV := Lib.hid (not_kind (r := r) (l := l) (s := s) (p := [p0, p1, p2, p3, p4, p5, p6, p7, p8, p9]) (show 2 < k by omega))
    have q0 : ((k : Int) == 0) = false := by simp; omega
    have q1 : ((k : Int) == 1) = false := by simp; omega
    have q2 : ((k : Int) == 2) = false := by simp; omega
    go_enter Try.func13, Try.ntmps13
    go_wp2
    go_ret
    refine ⟨by rw [HV.out]; rfl, ?_⟩
    repeat (first | with_reducible exact Below.refl _ _ | with_reducible refine below_drewN ?_ _ | with_reducible refine Below.setCell ?_ ?_ _ | with_reducible refine Below.alloc ?_ ?_ _)
    all_goals (first | omega | (simp <;> omega))
end Go.Proofs.Ytahpdnfnaimbnaa.Inode
