/-
  What the document's calls on a table of processes answer, and what they make of it.
  No condition is set.
-/
import Derived.Test.YtnahccdjeilboaaWb
namespace Go.Proofs.Ytnahccdjeilboaa.Prc
open Go.RowKit Apart
attribute [local go_sem ↓] Go.wp_at_zero Go.wp_at_succ

section
variable {w : World} {b r : Nat} {t : Tb} {P : Nat → Prop}
theorem RefG.c0 (h : RefG b r t w) : w.cell? ⟨b, 0, none⟩ = some (.slice (some ⟨r, 0, none⟩) t.n t.n) := h.blk.cell 0
set_option maxHeartbeats 400000 in
theorem rhas_any (h : RefG b r t w) (p : Int) : Calls Try.prog 19 #[.pointer (some ⟨b, 0, none⟩), .int .i64 p] w fun e w' => e = .returned (.bool (hasB t.n p)) ∧ w = w' := by
  have hc := h.c0
  cases hb : hasB t.n p
  · rcases has_not hb with h1 | ⟨h1, h2⟩
    · have h3 : ¬ 0 ≤ p := by omega
      clear hb
      go_enter Try.func19, Try.ntmps19
      go_wp2
      go_ret
      exact ⟨rfl, rfl⟩
    · have h3 : ¬ p < (t.n : Int) := by omega
      have h4 : decide (p < (t.n : Int)) = false := by simpa using h3
      clear hb
      generalize t.n = n at *
      go_enter Try.func19, Try.ntmps19
      go_wp2
      go_ret
      exact ⟨rfl, rfl⟩
  · obtain ⟨q, rfl, hq⟩ := has_nat hb
    have h3 : (q : Int) < (t.n : Int) := by omega
    have h4 : decide ((q : Int) < (t.n : Int)) = true := by simpa using h3
    clear hb
    generalize t.n = n at *
    go_enter Try.func19, Try.ntmps19
    go_wp2
    go_ret
    exact ⟨rfl, rfl⟩
set_option maxHeartbeats 400000 in
theorem rwhy_any (h : RefG b r t w) (p fd : Int) : Calls Try.prog 30 #[.pointer (some ⟨b, 0, none⟩), .int .i64 p, .int .i64 fd] w fun e w' => e = .returned (.int .i64 (t.why p fd)) ∧ w = w' := by
  have hH := Lib.hid (rhas_any h p)
  have hc := h.c0
  cases hx : t.at_ p fd with
  | none =>
    rcases at_none hx with ⟨h1, h2⟩ | ⟨h2, q, rfl, hq, h3⟩
    · rw [h2]
      rw [h1] at hH
      clear h1 h2 hx
      go_enter Try.func30, Try.ntmps30
      go_wp2_with (go_at_call 19; refine hH.out.mono ?_; rintro e w' ⟨rfl, rfl⟩)
      go_ret
      exact ⟨rfl, rfl⟩
    · rw [h2]
      rw [has_of hq] at hH
      rcases h3 with h3 | ⟨k, rfl, hk, h4⟩
      · clear h2 hx
        rcases fd_not h3 with h5 | ⟨h5, h6⟩
        · clear h3
          go_enter Try.func30, Try.ntmps30
          go_wp2_with (go_at_call 19; refine hH.out.mono ?_; rintro e w' ⟨rfl, rfl⟩)
          go_ret
          exact ⟨rfl, rfl⟩
        · have h7 : ¬ fd < 0 := by omega
          clear h3
          go_enter Try.func30, Try.ntmps30
          go_wp2_with (go_at_call 19; refine hH.out.mono ?_; rintro e w' ⟨rfl, rfl⟩)
          go_ret
          exact ⟨rfl, rfl⟩
      · have hs := h.sl hq hk (j := 0) (by omega)
        rw [h4] at hs
        simp only [slV, Option.isSome_none, if_true, Nat.add_zero] at hs
        have k8 : ¬ (8 : Int) ≤ (k : Int) := by omega
        have k9 : (k : Int) < 8 := by omega
        have hq2 : (q : Int) < (t.n : Int) := by omega
        clear h2 hx h4
        generalize t.n = n at *
        go_enter Try.func30, Try.ntmps30
        go_wp2_with (go_at_call 19; refine hH.out.mono ?_; rintro e w' ⟨rfl, rfl⟩)
        go_ret
        exact ⟨rfl, rfl⟩
  | some x =>
    rw [why_some hx]
    obtain ⟨q, k, rfl, rfl, hq, hk, h2, h3⟩ := at_some hx
    rw [has_of hq] at hH
    have hs := h.sl hq hk (j := 0) (by omega)
    rw [h2] at hs
    simp only [slV, Option.isSome_some, if_true, Nat.add_zero] at hs
    have k8 : ¬ (8 : Int) ≤ (k : Int) := by omega
    have k9 : (k : Int) < 8 := by omega
    have hq2 : (q : Int) < (t.n : Int) := by omega
    clear h2 hx h3
    generalize t.n = n at *
    go_enter Try.func30, Try.ntmps30
    go_wp2_with (go_at_call 19; refine hH.out.mono ?_; rintro e w' ⟨rfl, rfl⟩)
    go_ret
    exact ⟨rfl, rfl⟩

set_option maxHeartbeats 400000 in
theorem rraise_any (h : RefG b r t w) (hP : ∀ i, P i ↔ (i = b ∨ i = r)) (hbd : Bd P w) (ht : t.Ok) (p : Int) (a : Nat) (ha : a < 65536) :
    Calls Try.prog 25 #[.pointer (some ⟨b, 0, none⟩), .int .i64 p, .int .u16 (a : Int)] w fun e w' => e = .returned (.int .i64 (raiseA t p a).1) ∧ Nx (RefA b r (raiseA t p a).2) P w w' := by
  have hH := Lib.hid (rhas_any h p)
  have hc := h.c0
  have same : Nx (RefA b r t) P w w := Nx.same ⟨h, hP⟩ hbd
  cases hb : hasB t.n p
  · have e1 : raiseA t p a = (1, t) := by simp [raiseA, hb]
    rw [e1]
    rw [hb] at hH
    clear e1 hb
    go_enter Try.func25, Try.ntmps25
    go_wp2_with (go_at_call 19; refine hH.out.mono ?_; rintro e w' ⟨rfl, rfl⟩)
    go_ret
    exact ⟨rfl, same⟩
  · rw [hb] at hH
    obtain ⟨q, rfl, hq⟩ := has_nat hb
    have hl := h.lab hq
    have hlab := ht.lab q
    have hfz := h.row.frozen (q * 25)
    have hq2 : (q : Int) < (t.n : Int) := by omega
    cases hf : flowB (t.lab q) a
    · have e1 : raiseA t (q : Int) a = (7, t) := by simp [raiseA, hb, hf]
      rw [e1]
      have Hf := Lib.hid hf
      clear e1 hb hf
      generalize hn : t.n = n at *
      have Hn := Lib.hid hn
      clear hn
      go_enter Try.func25, Try.ntmps25
      go_wp2_with (first | (go_at_call 19; refine hH.out.mono ?_; rintro e w' ⟨rfl, rfl⟩) | (go_at_call 33; refine (rflows_any _ _ _ hlab ha).mono ?_; rintro e w' ⟨rfl, rfl⟩; rw [Hf.out]))
      go_ret
      exact ⟨rfl, same⟩
    · have e1 : raiseA t (q : Int) a = (0, { t with lab := upd t.lab q a }) := by simp [raiseA, hb, hf]
      rw [e1]
      have Hf := Lib.hid hf
      have Hr := Lib.hid (ref_raise h hP hq a)
      have hne := h.ne
      have hne2 : r ≠ b := Ne.symm hne
      clear e1 hb hf same
      generalize hn : t.n = n at *
      have Hn := Lib.hid hn
      clear hn
      go_enter Try.func25, Try.ntmps25
      go_wp2_with (first | (go_at_call 19; refine hH.out.mono ?_; rintro e w' ⟨rfl, rfl⟩) | (go_at_call 33; refine (rflows_any _ _ _ hlab ha).mono ?_; rintro e w' ⟨rfl, rfl⟩; rw [Hf.out]))
      go_ret
      exact ⟨rfl, Hr.out⟩
end
end Go.Proofs.Ytnahccdjeilboaa.Prc
