/-
  InodeApart: each of a file's blocks has a way of its own, and there are as many as bytes need.
-/
import Derived.Test.YtahpdnfnaimbnaaO
namespace Go.Proofs.Ytahpdnfnaimbnaa
open Go.ChangeShapes Go.WideShapes Go.ChangeAt Go.RowKit Inode

theorem wh_out {n : Int} (h : n < 0 ∨ 60 ≤ n) : (whP n).1 = -1 := by unfold whP; rw [if_pos h]
theorem wh_in {n : Int} (h0 : 0 ≤ n) (h : n < 60) : whP n = if n < 8 then (0, n, 0) else if n < 40 then (1, n - 8, 0) else (2, (n - 40) / 32, (n - 40) % 32) := by
  unfold whP wayP
  rw [if_neg (by omega), if_neg (by omega)]
  repeat' split
  all_goals rfl
theorem wh_pos {n : Int} (h0 : 0 ≤ n) (h : n < 60) : 0 ≤ (whP n).1 := by
  rw [wh_in h0 h]
  repeat' split
  all_goals simp
/-- Unlike blocks have unlike ways. -/
theorem wh_inj {a b : Int} (h0 : 0 ≤ a) (h : a < 60) (he : whP a = whP b) : a = b := by
  by_cases hb : b < 0 ∨ 60 ≤ b
  · have h1 := wh_pos h0 h
    have h2 := wh_out hb
    rw [he, h2] at h1
    omega
  · rw [wh_in h0 h, wh_in (by omega) (by omega)] at he
    split at he <;> split at he <;> first
      | (simp only [Prod.mk.injEq] at he; omega)
      | (split at he <;> first | (simp only [Prod.mk.injEq] at he; omega) | (split at he <;> (simp only [Prod.mk.injEq] at he; omega)))
theorem tri_kept {w w1 : World} {a b c d e f : Value} (hb : Below ((w.alloc (.cells #[a, b, c] 45)).alloc (.cells #[d, e, f] 45)).heap.size ((w.alloc (.cells #[a, b, c] 45)).alloc (.cells #[d, e, f] 45)) w1) :
    Bk w1 w.heap.size 45 [a, b, c] ∧ Bk w1 (w.heap.size + 1) 45 [d, e, f] ∧ Below w.heap.size w w1 ∧ w.heap.size + 1 < w1.heap.size := by
  have h1 := Bk.new w 45 [a, b, c]
  have b1 := alloc_below w (.cells [a, b, c].toArray 45)
  have s1 : (w.alloc (.cells [a, b, c].toArray 45)).heap.size = w.heap.size + 1 := by simp
  have hb2 : Below ((w.alloc (.cells [a, b, c].toArray 45)).alloc (.cells [d, e, f].toArray 45)).heap.size ((w.alloc (.cells [a, b, c].toArray 45)).alloc (.cells [d, e, f].toArray 45)) w1 := hb
  clear hb
  generalize w.alloc (.cells [a, b, c].toArray 45) = w2 at *
  have h2 := Bk.new w2 45 [d, e, f]
  have b2 := alloc_below w2 (.cells [d, e, f].toArray 45)
  have s2 : (w2.alloc (.cells [d, e, f].toArray 45)).heap.size = w2.heap.size + 1 := by simp
  generalize w2.alloc (.cells [d, e, f].toArray 45) = w3 at *
  rw [s1] at h2
  have := hb2.size
  have h3 : Bk w3 w.heap.size 45 [a, b, c] := h1.below b2 (by omega)
  exact ⟨h3.below hb2 (by omega), h2.below hb2 (by omega), (b1.trans (b2.mono (by omega))).trans (hb2.mono (by omega)), by omega⟩

set_option maxHeartbeats 3200000 in
set_option maxRecDepth 100000 in
theorem apart_walk (a b : Int) (ha : -9223372036854775808 ≤ a ∧ a ≤ 9223372036854775807) (hb : -9223372036854775808 ≤ b ∧ b ≤ 9223372036854775807) (w : World) :
    Calls Try.prog 8 #[.int .i64 a, .int .i64 b] w fun e w' => e = .returned (.bool true) ∧ Below w.heap.size w w' := by
  have inj := fun h0 h => wh_inj (a := a) (b := b) h0 h
  have hp0 := fun h => wh_out (n := a) h
  have hp1 := fun h0 h => wh_pos (n := a) h0 h
  obtain ⟨x0, x1, x2, hx⟩ : ∃ x0 x1 x2, whP a = (x0, x1, x2) := ⟨_, _, _, rfl⟩
  obtain ⟨y0, y1, y2, hy⟩ : ∃ y0 y1 y2, whP b = (y0, y1, y2) := ⟨_, _, _, rfl⟩
  have HA : Hid (∀ W : World, Calls Try.prog 26 #[.int .i64 a] W fun e w' => e = .returned (.agg #[.int .i64 x0, .int .i64 x1, .int .i64 x2]) ∧ Below W.heap.size W w') := fun W => by
    have := wh_any a W ha.1 ha.2
    rwa [hx] at this
  have HB : Hid (∀ W : World, Calls Try.prog 26 #[.int .i64 b] W fun e w' => e = .returned (.agg #[.int .i64 y0, .int .i64 y1, .int .i64 y2]) ∧ Below W.heap.size W w') := fun W => by
    have := wh_any b W hb.1 hb.2
    rwa [hy] at this
  have H60 : Hid (∀ W : World, Calls Try.prog 24 #[.int .i64 3840] W fun e w' => e = .returned (.int .i64 60) ∧ W = w') := fun W => blocks_any 3840 W (by omega) (by omega)
  have HN : Hid (∀ W : World, Calls Try.prog 24 #[.int .i64 a] W fun e w' => e = .returned (.int .i64 (blocksP a)) ∧ W = w') := fun W => blocks_any a W ha.1 ha.2
  have hg : ∀ (x y : Operand) (xs ys : Array Value) (op : BinOp) (W : World), (eqGuard op 45 x y (.agg xs) (.agg ys)).run Try.prog W = .ok () W := fun x y xs ys op W => guard_at45 W x y xs ys op
  have hne := fun W => tri_neq W x0 x1 x2 y0 y1 y2
  have hD : Hid (∀ a, Below a w w) := fun _ => Below.refl _ _
  rw [hx, hy] at inj
  rw [hx] at hp0 hp1
  simp only at hp0 hp1
  clear hx hy
  have hbl : 1 ≤ a → blocksP a = (a - 1) / 64 + 1 := fun h => by unfold blocksP; rw [if_neg (by omega)]
  generalize blocksP a = u at *
  by_cases a0 : a < 0
  · have hx := hp0 (.inl a0)
    subst hx
    have q0 : decide (a ≥ 0) = false := decide_eq_false (by omega)
    have q1 : decide (a < 1) = true := decide_eq_true (by omega)
    clear inj hp0 hp1 hbl hD ha hb
    go_enter Try.func8, Try.ntmps8
    go_wp2_with (first
      | (go_at_call 26; (with_reducible refine (HA.out _).mono ?_); rintro e w1 ⟨he, hb1⟩; obtain rfl := he; have HB1 := Lib.hid hb1; clear hb1)
      | (go_at_call 26; (with_reducible refine (HB.out _).mono ?_); rintro e w2 ⟨he, hb2⟩; obtain rfl := he; have HB2 := Lib.hid (HB1.out.trans (hb2.mono HB1.out.size)); clear hb2)
      | (go_at_call 24; (with_reducible refine (H60.out _).mono ?_); rintro e w' ⟨he, hw'⟩; obtain rfl := he; obtain rfl := hw')
      | (go_at_call 24; (with_reducible refine (HN.out _).mono ?_); rintro e w' ⟨he, hw'⟩; obtain rfl := he; obtain rfl := hw')
      | (go_at_call 12; (with_reducible refine (shown_any _).mono ?_); rintro e w3 ⟨he, hb3⟩; obtain rfl := he; obtain ⟨k3, j3, hb3', hs3⟩ := tri_kept hb3; have c0 := k3.cell 0; have c1 := k3.cell 1; have c2 := k3.cell 2; have d0 := j3.cell 0; have d1 := j3.cell 1; have d2 := j3.cell 2; have HB3 := Lib.hid (HB2.out.trans (hb3'.mono HB2.out.size)); have hs2 : w2.heap.size < w3.heap.size := Nat.lt_of_succ_lt hs3; clear hb3 hb3' k3 j3))
    go_ret
    exact ⟨rfl, HB3.out⟩
  by_cases a1 : 60 ≤ a
  · have hx := hp0 (.inr a1)
    subst hx
    have hu := hbl (by omega)
    have q0 : decide (a ≥ 0) = true := decide_eq_true (by omega)
    have q1 : decide (a < 1) = false := decide_eq_false (by omega)
    have q2 : decide (a < 60) = false := decide_eq_false (by omega)
    have e1 : IntKind.i64.wrap (u - 1) = u - 1 := IntWalk.i64_in _ (by omega)
    have e2 : IntKind.i64.wrap ((u - 1) * 64) = (u - 1) * 64 := IntWalk.i64_in _ (by omega)
    have q3 : decide ((u - 1) * 64 < a) = true := decide_eq_true (by omega)
    by_cases a2 : a ≤ 4611686018427387904
    · have e3 : IntKind.i64.wrap (u * 64) = u * 64 := IntWalk.i64_in _ (by omega)
      have e4 : IntKind.i64.wrap (u * 64 - a) = u * 64 - a := IntWalk.i64_in _ (by omega)
      have q4 : decide (a ≤ u * 64) = true := decide_eq_true (by omega)
      clear inj hp0 hp1 hbl hD ha hb hu
      go_enter Try.func8, Try.ntmps8
      go_wp2_with (first
        | (go_at_call 26; (with_reducible refine (HA.out _).mono ?_); rintro e w1 ⟨he, hb1⟩; obtain rfl := he; have HB1 := Lib.hid hb1; clear hb1)
        | (go_at_call 26; (with_reducible refine (HB.out _).mono ?_); rintro e w2 ⟨he, hb2⟩; obtain rfl := he; have HB2 := Lib.hid (HB1.out.trans (hb2.mono HB1.out.size)); clear hb2)
        | (go_at_call 24; (with_reducible refine (H60.out _).mono ?_); rintro e w' ⟨he, hw'⟩; obtain rfl := he; obtain rfl := hw')
        | (go_at_call 24; (with_reducible refine (HN.out _).mono ?_); rintro e w' ⟨he, hw'⟩; obtain rfl := he; obtain rfl := hw')
        | (go_at_call 12; (with_reducible refine (shown_any _).mono ?_); rintro e w3 ⟨he, hb3⟩; obtain rfl := he; obtain ⟨k3, j3, hb3', hs3⟩ := tri_kept hb3; have c0 := k3.cell 0; have c1 := k3.cell 1; have c2 := k3.cell 2; have d0 := j3.cell 0; have d1 := j3.cell 1; have d2 := j3.cell 2; have HB3 := Lib.hid (HB2.out.trans (hb3'.mono HB2.out.size)); have hs2 : w2.heap.size < w3.heap.size := Nat.lt_of_succ_lt hs3; clear hb3 hb3' k3 j3))
      go_ret
      exact ⟨rfl, HB3.out⟩
    · have q5 : decide (a > 4611686018427387904) = true := decide_eq_true (by omega)
      obtain ⟨z, hz⟩ : ∃ z, IntKind.i64.wrap (u * 64) = z := ⟨_, rfl⟩
      obtain ⟨z2, hz2⟩ : ∃ z2, IntKind.i64.wrap (z - a) = z2 := ⟨_, rfl⟩
      by_cases a3 : z2 ≥ 0
      · have q4 : decide (z2 ≥ 0) = true := decide_eq_true a3
        clear inj hp0 hp1 hbl hD ha hb hu
        go_enter Try.func8, Try.ntmps8
        go_wp2_with (first
          | (go_at_call 26; (with_reducible refine (HA.out _).mono ?_); rintro e w1 ⟨he, hb1⟩; obtain rfl := he; have HB1 := Lib.hid hb1; clear hb1)
          | (go_at_call 26; (with_reducible refine (HB.out _).mono ?_); rintro e w2 ⟨he, hb2⟩; obtain rfl := he; have HB2 := Lib.hid (HB1.out.trans (hb2.mono HB1.out.size)); clear hb2)
          | (go_at_call 24; (with_reducible refine (H60.out _).mono ?_); rintro e w' ⟨he, hw'⟩; obtain rfl := he; obtain rfl := hw')
          | (go_at_call 24; (with_reducible refine (HN.out _).mono ?_); rintro e w' ⟨he, hw'⟩; obtain rfl := he; obtain rfl := hw')
          | (go_at_call 12; (with_reducible refine (shown_any _).mono ?_); rintro e w3 ⟨he, hb3⟩; obtain rfl := he; obtain ⟨k3, j3, hb3', hs3⟩ := tri_kept hb3; have c0 := k3.cell 0; have c1 := k3.cell 1; have c2 := k3.cell 2; have d0 := j3.cell 0; have d1 := j3.cell 1; have d2 := j3.cell 2; have HB3 := Lib.hid (HB2.out.trans (hb3'.mono HB2.out.size)); have hs2 : w2.heap.size < w3.heap.size := Nat.lt_of_succ_lt hs3; clear hb3 hb3' k3 j3))
        go_ret
        exact ⟨rfl, HB3.out⟩
      · have q4 : decide (z2 ≥ 0) = false := decide_eq_false a3
        clear inj hp0 hp1 hbl hD ha hb hu
        go_enter Try.func8, Try.ntmps8
        go_wp2_with (first
          | (go_at_call 26; (with_reducible refine (HA.out _).mono ?_); rintro e w1 ⟨he, hb1⟩; obtain rfl := he; have HB1 := Lib.hid hb1; clear hb1)
          | (go_at_call 26; (with_reducible refine (HB.out _).mono ?_); rintro e w2 ⟨he, hb2⟩; obtain rfl := he; have HB2 := Lib.hid (HB1.out.trans (hb2.mono HB1.out.size)); clear hb2)
          | (go_at_call 24; (with_reducible refine (H60.out _).mono ?_); rintro e w' ⟨he, hw'⟩; obtain rfl := he; obtain rfl := hw')
          | (go_at_call 24; (with_reducible refine (HN.out _).mono ?_); rintro e w' ⟨he, hw'⟩; obtain rfl := he; obtain rfl := hw')
          | (go_at_call 12; (with_reducible refine (shown_any _).mono ?_); rintro e w3 ⟨he, hb3⟩; obtain rfl := he; obtain ⟨k3, j3, hb3', hs3⟩ := tri_kept hb3; have c0 := k3.cell 0; have c1 := k3.cell 1; have c2 := k3.cell 2; have d0 := j3.cell 0; have d1 := j3.cell 1; have d2 := j3.cell 2; have HB3 := Lib.hid (HB2.out.trans (hb3'.mono HB2.out.size)); have hs2 : w2.heap.size < w3.heap.size := Nat.lt_of_succ_lt hs3; clear hb3 hb3' k3 j3))
        go_ret
        exact ⟨rfl, HB3.out⟩
  have hxp := hp1 (by omega) (by omega)
  have q0 : decide (a ≥ 0) = true := decide_eq_true (by omega)
  have q2 : decide (a < 60) = true := decide_eq_true (by omega)
  have q6 : decide (x0 ≥ 0) = true := decide_eq_true hxp
  by_cases hab : (x0, x1, x2) = (y0, y1, y2)
  · have e := inj (by omega) (by omega) hab
    simp only [Prod.mk.injEq] at hab
    obtain ⟨rfl, rfl, rfl⟩ := hab
    have hne' : ∀ W, (binOp .neq 45 (.agg #[.int .i64 x0, .int .i64 x1, .int .i64 x2]) (.agg #[.int .i64 x0, .int .i64 x1, .int .i64 x2])).run Try.prog W = .ok (.bool false) W := fun W => by rw [hne]; simp
    have q7 : (a == b) = true := by rw [e]; exact beq_self_eq_true b
    clear hne
    by_cases a4 : a < 1
    · have q1 : decide (a < 1) = true := decide_eq_true (by omega)
      clear inj hp0 hp1 hbl hD ha hb e
      go_enter Try.func8, Try.ntmps8
      go_wp2_with (first
        | (go_at_call 26; (with_reducible refine (HA.out _).mono ?_); rintro e w1 ⟨he, hb1⟩; obtain rfl := he; have HB1 := Lib.hid hb1; clear hb1)
        | (go_at_call 26; (with_reducible refine (HB.out _).mono ?_); rintro e w2 ⟨he, hb2⟩; obtain rfl := he; have HB2 := Lib.hid (HB1.out.trans (hb2.mono HB1.out.size)); clear hb2)
        | (go_at_call 24; (with_reducible refine (H60.out _).mono ?_); rintro e w' ⟨he, hw'⟩; obtain rfl := he; obtain rfl := hw')
        | (go_at_call 24; (with_reducible refine (HN.out _).mono ?_); rintro e w' ⟨he, hw'⟩; obtain rfl := he; obtain rfl := hw')
        | (go_at_call 12; (with_reducible refine (shown_any _).mono ?_); rintro e w3 ⟨he, hb3⟩; obtain rfl := he; obtain ⟨k3, j3, hb3', hs3⟩ := tri_kept hb3; have c0 := k3.cell 0; have c1 := k3.cell 1; have c2 := k3.cell 2; have d0 := j3.cell 0; have d1 := j3.cell 1; have d2 := j3.cell 2; have HB3 := Lib.hid (HB2.out.trans (hb3'.mono HB2.out.size)); have hs2 : w2.heap.size < w3.heap.size := Nat.lt_of_succ_lt hs3; clear hb3 hb3' k3 j3))
      go_ret
      exact ⟨rfl, HB3.out⟩
    · have hu := hbl (by omega)
      have q1 : decide (a < 1) = false := decide_eq_false (by omega)
      have e1 : IntKind.i64.wrap (u - 1) = u - 1 := IntWalk.i64_in _ (by omega)
      have e2 : IntKind.i64.wrap ((u - 1) * 64) = (u - 1) * 64 := IntWalk.i64_in _ (by omega)
      have q3 : decide ((u - 1) * 64 < a) = true := decide_eq_true (by omega)
      have e3 : IntKind.i64.wrap (u * 64) = u * 64 := IntWalk.i64_in _ (by omega)
      have e4 : IntKind.i64.wrap (u * 64 - a) = u * 64 - a := IntWalk.i64_in _ (by omega)
      have q4 : decide (a ≤ u * 64) = true := decide_eq_true (by omega)
      clear inj hp0 hp1 hbl hD ha hb e hu
      go_enter Try.func8, Try.ntmps8
      go_wp2_with (first
        | (go_at_call 26; (with_reducible refine (HA.out _).mono ?_); rintro e w1 ⟨he, hb1⟩; obtain rfl := he; have HB1 := Lib.hid hb1; clear hb1)
        | (go_at_call 26; (with_reducible refine (HB.out _).mono ?_); rintro e w2 ⟨he, hb2⟩; obtain rfl := he; have HB2 := Lib.hid (HB1.out.trans (hb2.mono HB1.out.size)); clear hb2)
        | (go_at_call 24; (with_reducible refine (H60.out _).mono ?_); rintro e w' ⟨he, hw'⟩; obtain rfl := he; obtain rfl := hw')
        | (go_at_call 24; (with_reducible refine (HN.out _).mono ?_); rintro e w' ⟨he, hw'⟩; obtain rfl := he; obtain rfl := hw')
        | (go_at_call 12; (with_reducible refine (shown_any _).mono ?_); rintro e w3 ⟨he, hb3⟩; obtain rfl := he; obtain ⟨k3, j3, hb3', hs3⟩ := tri_kept hb3; have c0 := k3.cell 0; have c1 := k3.cell 1; have c2 := k3.cell 2; have d0 := j3.cell 0; have d1 := j3.cell 1; have d2 := j3.cell 2; have HB3 := Lib.hid (HB2.out.trans (hb3'.mono HB2.out.size)); have hs2 : w2.heap.size < w3.heap.size := Nat.lt_of_succ_lt hs3; clear hb3 hb3' k3 j3))
      go_ret
      exact ⟨rfl, HB3.out⟩
  · have hne' : ∀ W, (binOp .neq 45 (.agg #[.int .i64 x0, .int .i64 x1, .int .i64 x2]) (.agg #[.int .i64 y0, .int .i64 y1, .int .i64 y2])).run Try.prog W = .ok (.bool true) W := fun W => by
      rw [hne]
      congr 2
      simp only [Prod.mk.injEq, not_and] at hab
      simp only [Bool.and_true, Bool.not_eq_true', Bool.and_eq_false_imp, beq_iff_eq, beq_eq_false_iff_ne, ne_eq]
      exact hab
    clear hne
    by_cases a4 : a < 1
    · have q1 : decide (a < 1) = true := decide_eq_true (by omega)
      clear inj hp0 hp1 hbl hD ha hb hab
      go_enter Try.func8, Try.ntmps8
      go_wp2_with (first
        | (go_at_call 26; (with_reducible refine (HA.out _).mono ?_); rintro e w1 ⟨he, hb1⟩; obtain rfl := he; have HB1 := Lib.hid hb1; clear hb1)
        | (go_at_call 26; (with_reducible refine (HB.out _).mono ?_); rintro e w2 ⟨he, hb2⟩; obtain rfl := he; have HB2 := Lib.hid (HB1.out.trans (hb2.mono HB1.out.size)); clear hb2)
        | (go_at_call 24; (with_reducible refine (H60.out _).mono ?_); rintro e w' ⟨he, hw'⟩; obtain rfl := he; obtain rfl := hw')
        | (go_at_call 24; (with_reducible refine (HN.out _).mono ?_); rintro e w' ⟨he, hw'⟩; obtain rfl := he; obtain rfl := hw')
        | (go_at_call 12; (with_reducible refine (shown_any _).mono ?_); rintro e w3 ⟨he, hb3⟩; obtain rfl := he; obtain ⟨k3, j3, hb3', hs3⟩ := tri_kept hb3; have c0 := k3.cell 0; have c1 := k3.cell 1; have c2 := k3.cell 2; have d0 := j3.cell 0; have d1 := j3.cell 1; have d2 := j3.cell 2; have HB3 := Lib.hid (HB2.out.trans (hb3'.mono HB2.out.size)); have hs2 : w2.heap.size < w3.heap.size := Nat.lt_of_succ_lt hs3; clear hb3 hb3' k3 j3))
      go_ret
      exact ⟨rfl, HB3.out⟩
    · have hu := hbl (by omega)
      have q1 : decide (a < 1) = false := decide_eq_false (by omega)
      have e1 : IntKind.i64.wrap (u - 1) = u - 1 := IntWalk.i64_in _ (by omega)
      have e2 : IntKind.i64.wrap ((u - 1) * 64) = (u - 1) * 64 := IntWalk.i64_in _ (by omega)
      have q3 : decide ((u - 1) * 64 < a) = true := decide_eq_true (by omega)
      have e3 : IntKind.i64.wrap (u * 64) = u * 64 := IntWalk.i64_in _ (by omega)
      have e4 : IntKind.i64.wrap (u * 64 - a) = u * 64 - a := IntWalk.i64_in _ (by omega)
      have q4 : decide (a ≤ u * 64) = true := decide_eq_true (by omega)
      clear inj hp0 hp1 hbl hD ha hb hab hu
      go_enter Try.func8, Try.ntmps8
      go_wp2_with (first
        | (go_at_call 26; (with_reducible refine (HA.out _).mono ?_); rintro e w1 ⟨he, hb1⟩; obtain rfl := he; have HB1 := Lib.hid hb1; clear hb1)
        | (go_at_call 26; (with_reducible refine (HB.out _).mono ?_); rintro e w2 ⟨he, hb2⟩; obtain rfl := he; have HB2 := Lib.hid (HB1.out.trans (hb2.mono HB1.out.size)); clear hb2)
        | (go_at_call 24; (with_reducible refine (H60.out _).mono ?_); rintro e w' ⟨he, hw'⟩; obtain rfl := he; obtain rfl := hw')
        | (go_at_call 24; (with_reducible refine (HN.out _).mono ?_); rintro e w' ⟨he, hw'⟩; obtain rfl := he; obtain rfl := hw')
        | (go_at_call 12; (with_reducible refine (shown_any _).mono ?_); rintro e w3 ⟨he, hb3⟩; obtain rfl := he; obtain ⟨k3, j3, hb3', hs3⟩ := tri_kept hb3; have c0 := k3.cell 0; have c1 := k3.cell 1; have c2 := k3.cell 2; have d0 := j3.cell 0; have d1 := j3.cell 1; have d2 := j3.cell 2; have HB3 := Lib.hid (HB2.out.trans (hb3'.mono HB2.out.size)); have hs2 : w2.heap.size < w3.heap.size := Nat.lt_of_succ_lt hs3; clear hb3 hb3' k3 j3))
      go_ret
      exact ⟨rfl, HB3.out⟩

theorem apart_contract (H : Type) (enc : TypeId × Value → H) (W : World) (base : Nat) (args : Array Value) (ds gs : List (DataW H)) (before : List MemPlace)
    (hval : ∀ (j : Nat) t v, Try.f8.params[j]? = some t → args[j]? = some v → Value.okWide Try.prog W .any base t v)
    (hW : DataW.Whole enc Try.prog Try.f8.params.toList Rows.inodeApartSpec.vars false W args.toList ds gs before) :
    Calls Try.prog 8 args W fun e W' => ∃ v, e = .returned v ∧ Rows.inodeApartSpec.post enc Try.prog Try.f8 false true false false W args v W' := by
  have hW' := hW
  have hlt : ∀ x ∈ before, x.block < W.heap.size := fun x hx => hW.lt x hx
  obtain ⟨p, q, hA0, hV, rfl, _, _⟩ := hW
  have hA : DataW.TrodAll enc Try.prog W 0 (fun _ => true) true Try.f8.params.toList args.toList ds p := hA0
  rw [Try.params8] at hA hval
  obtain ⟨v0, vs0, d0, ds0, p0, q0, hargs, rfl, rfl, h0, r0⟩ := trodAll_cons hA
  obtain ⟨v1, vs1, d1, ds1, p1, q1, rfl, rfl, rfl, h1, r1⟩ := trodAll_cons r0
  obtain ⟨rfl, rfl, rfl⟩ := trodAll_nil r1
  obtain rfl : args = #[v0, v1] := by cases args; simp_all
  obtain ⟨rfl, rfl⟩ := trodVars_none hV
  clear hA0
  obtain ⟨a0, rfl, rfl, rfl, wa0⟩ := open_int Try.underlying3 (hval 0 3 v0 rfl rfl) h0
  have bd0 := bounds_i64 wa0
  obtain ⟨a1, rfl, rfl, rfl, wa1⟩ := open_int Try.underlying3 (hval 1 3 v1 rfl rfl) h1
  have bd1 := bounds_i64 wa1
  refine (apart_walk a0 a1 ⟨by omega, by omega⟩ ⟨by omega, by omega⟩ W).mono fun e W' ⟨he, hb⟩ => ?_
  subst he
  exact ⟨_, rfl, law_post laid (by kernel_rfl) Try.underlying4 (by rw [Try.params8]; decide +kernel) rfl hW' ⟨rfl, rfl, rfl⟩ hb⟩

set_option maxRecDepth 100000 in
theorem apart_lifted (os : Os) (started : os.Started) (H : Type) (enc : TypeId × Value → H) :
    ReturnsInHanded {} Try.checked os 8 .any (Rows.inodeApartSpec.pre6 enc Try.prog Try.f8 Rows.inodeApartRow.domain false) (Rows.inodeApartSpec.post enc Try.prog Try.f8 false true false false) := by
  refine returnsInHanded_of_change (C := Try.checked) own started (by kernel_rfl) Try.func8
    (ChangeSpec.witness6 (enc := enc) (C := Try.checked) false ⟨#[], #[.int .i64 0, .int .i64 0], []⟩ 8 (by kernel_rfl) (by kernel_rfl) (by kernel_rfl) (by kernel_rfl)) ?_
  intro W base args ds gs before hval hW _ _
  exact apart_contract H enc W base args ds gs before hval hW

/-- InodeApart is true for every input. -/
theorem apart_holds : Rows.InodeApartSaid :=
  OpenClaim.holds_of_wide 8 Try.f8 rfl rfl rfl rfl rfl rfl rfl ⟨rfl, rfl, rfl, rfl, rfl⟩ rfl rfl rfl rfl rfl (by kernel_rfl) Try.func8 (by kernel_rfl)
    (of_decide_eq_true (by kernel_rfl)) (by unfold Func.isWrapper; first | (rw [if_pos (by decide +kernel)]; kernel_rfl) | (rw [if_neg (by decide +kernel)]; exact ⟨rfl, rfl⟩))
    (fun os started H enc _ => apart_lifted os started H enc)
end Go.Proofs.Ytahpdnfnaimbnaa
