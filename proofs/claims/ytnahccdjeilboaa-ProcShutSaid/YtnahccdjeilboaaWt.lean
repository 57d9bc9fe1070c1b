/-
  What the document's calls on a table of processes answer, and what they make of it: Close, Fd, Move.
  No condition is set.
-/
import Derived.Test.YtnahccdjeilboaaWs
namespace Go.Proofs.Ytnahccdjeilboaa.Prc
open Go.RowKit Apart
attribute [local go_sem ↓] Go.wp_at_zero Go.wp_at_succ

section
variable {w : World} {b r : Nat} {t : Tb} {P : Nat → Prop}
set_option maxHeartbeats 800000 in
theorem rclose_any (h : RefG b r t w) (hP : ∀ i, P i ↔ (i = b ∨ i = r)) (hbd : Bd P w) (p fd : Int) :
    Calls Try.prog 27 #[.pointer (some ⟨b, 0, none⟩), .int .i64 p, .int .i64 fd] w fun e w' => e = .returned (.tuple #[.int .i64 (closeA t p fd).1, .int .i64 (closeA t p fd).2.1]) ∧ Nx (RefA b r (closeA t p fd).2.2) P w w' := by
  have hW := Lib.hid (rwhy_any h p fd)
  have hc := h.c0
  have same : Nx (RefA b r t) P w w := Nx.same ⟨h, hP⟩ hbd
  cases hx : t.at_ p fd with
  | none =>
    have e1 : closeA t p fd = (0, t.why p fd, t) := by simp [closeA, hx]
    rw [e1]
    obtain ⟨hw1, hw2⟩ := why_bool hx
    clear e1 hx
    generalize t.why p fd = y at *
    go_enter Try.func27, Try.ntmps27
    go_wp2_with (go_at_call 30; refine hW.out.mono ?_; rintro e w' ⟨rfl, rfl⟩)
    go_ret2
    exact ⟨rfl, same⟩
  | some x =>
    rw [why_some hx] at hW
    obtain ⟨q, k, rfl, rfl, hq, hk, h2, h3⟩ := at_some hx
    have e1 : closeA t (q : Int) (k : Int) = (x.1, 0, { t with fil := upd t.fil (q * 8 + k) none }) := by simp [closeA, hx, h3]
    rw [e1]
    have ci := h.ino hq hk h2
    have z0 := h.row.frozen (q * 25 + 1 + k * 3)
    have z1 := h.row.frozen (q * 25 + 1 + k * 3 + 1)
    have z2 := h.row.frozen (q * 25 + 1 + k * 3 + 2)
    have c0 := h.on hq hk
    have c2 := h.pl hq hk h2
    have hq2 : (q : Int) < (t.n : Int) := by omega
    have k9 : (k : Int) < 8 := by omega
    have Hr := Lib.hid (ref_slot h hP hq hk none)
    have hne := h.ne
    have hne2 : r ≠ b := Ne.symm hne
    clear e1 hx h2 h3 same
    generalize hn : t.n = n at *
    have Hn := Lib.hid hn
    clear hn
    go_enter Try.func27, Try.ntmps27
    go_wp2_with (go_at_call 30; refine hW.out.mono ?_; rintro e w' ⟨rfl, rfl⟩)
    go_ret2
    exact ⟨rfl, Hr.out⟩
set_option maxHeartbeats 800000 in
theorem rmove_any (h : RefG b r t w) (hP : ∀ i, P i ↔ (i = b ∨ i = r)) (hbd : Bd P w) (p fd a : Int) :
    Calls Try.prog 28 #[.pointer (some ⟨b, 0, none⟩), .int .i64 p, .int .i64 fd, .int .i64 a] w fun e w' => e = .returned (.int .i64 (moveA t p fd a).1) ∧ Nx (RefA b r (moveA t p fd a).2) P w w' := by
  have hW := Lib.hid (rwhy_any h p fd)
  have hc := h.c0
  have same : Nx (RefA b r t) P w w := Nx.same ⟨h, hP⟩ hbd
  cases hx : t.at_ p fd with
  | none =>
    have e1 : moveA t p fd a = (t.why p fd, t) := by simp [moveA, hx]
    rw [e1]
    obtain ⟨hw1, hw2⟩ := why_bool hx
    clear e1 hx
    generalize t.why p fd = y at *
    go_enter Try.func28, Try.ntmps28
    go_wp2_with (go_at_call 30; refine hW.out.mono ?_; rintro e w' ⟨rfl, rfl⟩)
    go_ret
    exact ⟨rfl, same⟩
  | some x =>
    rw [why_some hx] at hW
    obtain ⟨q, k, rfl, rfl, hq, hk, h2, h3⟩ := at_some hx
    cases ha : plB a
    · have e1 : moveA t (q : Int) (k : Int) a = (1, t) := by simp [moveA, hx, ha]
      rw [e1]
      have hi2 : a < 0 ∨ (0 ≤ a ∧ 3840 < a) := by
        simp only [plB, Bool.and_eq_false_iff, decide_eq_false_iff_not] at ha
        omega
      clear e1 hx h2 h3 ha
      rcases hi2 with h5 | ⟨h5, h6⟩
      · go_enter Try.func28, Try.ntmps28
        go_wp2_with (go_at_call 30; refine hW.out.mono ?_; rintro e w' ⟨rfl, rfl⟩)
        go_ret
        exact ⟨rfl, same⟩
      · have h7 : ¬ a < 0 := by omega
        go_enter Try.func28, Try.ntmps28
        go_wp2_with (go_at_call 30; refine hW.out.mono ?_; rintro e w' ⟨rfl, rfl⟩)
        go_ret
        exact ⟨rfl, same⟩
    · have e1 : moveA t (q : Int) (k : Int) a = (0, { t with fil := upd t.fil (q * 8 + k) (some (x.1, a)) }) := by simp [moveA, hx, ha, h3]
      rw [e1]
      have hi2 : 0 ≤ a ∧ a ≤ 3840 := by simpa [plB] using ha
      obtain ⟨hi3, hi4⟩ := hi2
      have hi5 : ¬ (a < 0) := by omega
      have hi6 : ¬ (3840 < a) := by omega
      have z2 := h.row.frozen (q * 25 + 1 + k * 3 + 2)
      have c2 := h.pl hq hk h2
      have hq2 : (q : Int) < (t.n : Int) := by omega
      have k9 : (k : Int) < 8 := by omega
      have Hr := Lib.hid (ref_move h hP hq hk h2 a)
      clear e1 hx h2 h3 ha same
      generalize hn : t.n = n at *
      have Hn := Lib.hid hn
      clear hn
      go_enter Try.func28, Try.ntmps28
      go_wp2_with (go_at_call 30; refine hW.out.mono ?_; rintro e w' ⟨rfl, rfl⟩)
      go_ret
      exact ⟨rfl, Hr.out⟩
theorem RefG.below {w' : World} (h : RefG b r t w) (hb : Below w.heap.size w w') : RefG b r t w' := ⟨(hb.block b h.blk.lt).trans h.blk, Bf.of (hb.block r h.row.lt) h.row⟩
set_option maxHeartbeats 800000 in
theorem rfd_any (h : RefG b r t w) (p fd : Int) :
    Calls Try.prog 15 #[.pointer (some ⟨b, 0, none⟩), .int .i64 p, .int .i64 fd] w fun e w' => e = .returned (.tuple #[.agg #[.int .i64 (fdA t p fd).1.1, .int .i64 (fdA t p fd).1.2], .int .i64 (fdA t p fd).2]) ∧ Below w.heap.size w w' := by
  have hA := (Below.refl w.heap.size w).alloc (Nat.le_refl _) (.cells #[.int .i64 0, .int .i64 0] 40)
  have h' := h.below hA
  have hW := Lib.hid (rwhy_any h' p fd)
  cases hx : t.at_ p fd with
  | none =>
    have e1 : fdA t p fd = ((0, 0), t.why p fd) := by simp [fdA, hx]
    rw [e1]
    obtain ⟨hw1, hw2⟩ := why_bool hx
    clear e1 hx h'
    generalize t.why p fd = y at *
    go_enter Try.func15, Try.ntmps15
    go_wp2_with (go_at_call 30; refine hW.out.mono ?_; rintro e w' ⟨rfl, rfl⟩)
    exact bodyPost_ret (v := .tuple #[.agg #[.int .i64 0, .int .i64 0], .int .i64 y]) (by simp [results, Try.results15, go_sem]) rfl ⟨rfl, (Below.refl _ _).alloc (Nat.le_refl _) _⟩
  | some x =>
    rw [why_some hx] at hW
    obtain ⟨q, k, rfl, rfl, hq, hk, h2, h3⟩ := at_some hx
    have e1 : fdA t (q : Int) (k : Int) = (x, 0) := by simp [fdA, hx]
    rw [e1]
    have hc := h.c0
    have c1 := h.ino hq hk h2
    have c2 := h.pl hq hk h2
    have hq2 : (q : Int) < (t.n : Int) := by omega
    have k9 : (k : Int) < 8 := by omega
    have hb1 := h.blk.lt
    have hr1 := h.row.lt
    clear e1 hx h2 h3 h h'
    generalize hn : t.n = n at *
    have Hn := Lib.hid hn
    clear hn
    go_enter Try.func15, Try.ntmps15
    go_wp2_with (go_at_call 30; refine hW.out.mono ?_; rintro e w' ⟨rfl, rfl⟩)
    exact bodyPost_ret (v := .tuple #[.agg #[.int .i64 x.1, .int .i64 x.2], .int .i64 0]) (by simp [results, Try.results15, go_sem]) rfl ⟨rfl, (Below.refl _ _).alloc (Nat.le_refl _) _⟩
end
end Go.Proofs.Ytnahccdjeilboaa.Prc
