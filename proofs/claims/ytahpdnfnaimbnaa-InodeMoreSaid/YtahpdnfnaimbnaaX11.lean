/-
  The way to a file's block, and how many blocks bytes need: package inode's Where and Blocks, the document's, and the statements' where.
-/
import Derived.Test.YtahpdnfnaimbnaaX1
namespace Go.Proofs.Ytahpdnfnaimbnaa.Inode
open Go.RowKit

/-- A way: level, a, b, and the error. -/
def wayP (n : Int) : Int × Int × Int × Int :=
  if n < 0 ∨ 60 ≤ n then (0, 0, 0, 1) else if n < 8 then (0, n, 0, 0) else if n < 40 then (1, n - 8, 0, 0) else (2, (n - 40) / 32, (n - 40) % 32, 0)
theorem wayP_bad {n : Int} (h : n < 0 ∨ 60 ≤ n) : wayP n = (0, 0, 0, 1) := by unfold wayP; rw [if_pos h]
theorem wayP_0 {n : Int} (h0 : 0 ≤ n) (h : n < 8) : wayP n = (0, n, 0, 0) := by unfold wayP; rw [if_neg (by omega), if_pos h]
theorem wayP_1 {n : Int} (h0 : 8 ≤ n) (h : n < 40) : wayP n = (1, n - 8, 0, 0) := by unfold wayP; rw [if_neg (by omega), if_neg (by omega), if_pos h]
theorem wayP_2 {n : Int} (h0 : 40 ≤ n) (h : n < 60) : wayP n = (2, (n - 40) / 32, (n - 40) % 32, 0) := by unfold wayP; rw [if_neg (by omega), if_neg (by omega), if_neg (by omega)]
def blocksP (n : Int) : Int := if n < 1 then 0 else (n - 1) / 64 + 1
def wayV (p : Int × Int × Int × Int) : Value := .tuple #[.int .i64 p.1, .int .i64 p.2.1, .int .i64 p.2.2.1, .int .i64 p.2.2.2]

theorem way_any (n : Int) (w : World) (h1 : -9223372036854775808 ≤ n) (h2 : n ≤ 9223372036854775807) : Calls Try.prog 20 #[.int .i64 n] w fun e w' => e = .returned (wayV (wayP n)) ∧ w = w' := by
  by_cases hb : n < 0 ∨ 60 ≤ n
  · rw [wayP_bad hb]
    by_cases h0 : n < 0
    · clear hb
      go_enter Try.func20, Try.ntmps20
      go_wp2
      refine bodyPost_ret (v := .tuple #[_, _, _, _]) (by simp [results, Try.results20, go_sem]; try rfl) rfl ⟨rfl, rfl⟩
    · have h60 : 60 ≤ n := by omega
      clear hb
      go_enter Try.func20, Try.ntmps20
      go_wp2
      refine bodyPost_ret (v := .tuple #[_, _, _, _]) (by simp [results, Try.results20, go_sem]; try rfl) rfl ⟨rfl, rfl⟩
  have h0 : 0 ≤ n := by omega
  have h60 : n < 60 := by omega
  clear hb
  by_cases h8 : n < 8
  · rw [wayP_0 h0 h8]
    go_enter Try.func20, Try.ntmps20
    go_wp2
    refine bodyPost_ret (v := .tuple #[_, _, _, _]) (by simp [results, Try.results20, go_sem]; try rfl) rfl ⟨rfl, rfl⟩
  by_cases h40 : n < 40
  · rw [wayP_1 (by omega) h40]
    have e1 : IntKind.i64.wrap (n - 8) = n - 8 := IntWalk.i64_in _ (by omega)
    go_enter Try.func20, Try.ntmps20
    go_wp2
    refine bodyPost_ret (v := .tuple #[_, _, _, _]) (by simp [results, Try.results20, go_sem]; try rfl) rfl ⟨rfl, rfl⟩
  · rw [wayP_2 (by omega) h60]
    obtain ⟨m, hm⟩ : ∃ m : Nat, n - 40 = (m : Int) := ⟨(n - 40).toNat, by omega⟩
    have hm20 : m < 20 := by omega
    obtain rfl : n = (m : Int) + 40 := by omega
    have e0 : (m : Int) + 40 - 40 = (m : Int) := by omega
    rw [e0]
    clear hm h0 h60 h8 h40 h1 h2
    go_enter Try.func20, Try.ntmps20
    go_wp2
    refine bodyPost_ret (v := .tuple #[_, _, _, _]) (by simp [results, Try.results20, go_sem]; try rfl) rfl ⟨rfl, rfl⟩
theorem rway_any (n : Int) (w : World) (h1 : -9223372036854775808 ≤ n) (h2 : n ≤ 9223372036854775807) : Calls Try.prog 21 #[.int .i64 n] w fun e w' => e = .returned (wayV (wayP n)) ∧ w = w' := by
  by_cases hb : n < 0 ∨ 60 ≤ n
  · rw [wayP_bad hb]
    by_cases h0 : n < 0
    · clear hb
      go_enter Try.func21, Try.ntmps21
      go_wp2
      refine bodyPost_ret (v := .tuple #[_, _, _, _]) (by simp [results, Try.results21, go_sem]; try rfl) rfl ⟨rfl, rfl⟩
    · have h60 : 60 ≤ n := by omega
      clear hb
      go_enter Try.func21, Try.ntmps21
      go_wp2
      refine bodyPost_ret (v := .tuple #[_, _, _, _]) (by simp [results, Try.results21, go_sem]; try rfl) rfl ⟨rfl, rfl⟩
  have h0 : 0 ≤ n := by omega
  have h60 : n < 60 := by omega
  clear hb
  by_cases h8 : n < 8
  · rw [wayP_0 h0 h8]
    go_enter Try.func21, Try.ntmps21
    go_wp2
    refine bodyPost_ret (v := .tuple #[_, _, _, _]) (by simp [results, Try.results21, go_sem]; try rfl) rfl ⟨rfl, rfl⟩
  by_cases h40 : n < 40
  · rw [wayP_1 (by omega) h40]
    have e1 : IntKind.i64.wrap (n - 8) = n - 8 := IntWalk.i64_in _ (by omega)
    go_enter Try.func21, Try.ntmps21
    go_wp2
    refine bodyPost_ret (v := .tuple #[_, _, _, _]) (by simp [results, Try.results21, go_sem]; try rfl) rfl ⟨rfl, rfl⟩
  · rw [wayP_2 (by omega) h60]
    obtain ⟨m, hm⟩ : ∃ m : Nat, n - 40 = (m : Int) := ⟨(n - 40).toNat, by omega⟩
    have hm20 : m < 20 := by omega
    obtain rfl : n = (m : Int) + 40 := by omega
    have e0 : (m : Int) + 40 - 40 = (m : Int) := by omega
    rw [e0]
    clear hm h0 h60 h8 h40 h1 h2
    go_enter Try.func21, Try.ntmps21
    go_wp2
    refine bodyPost_ret (v := .tuple #[_, _, _, _]) (by simp [results, Try.results21, go_sem]; try rfl) rfl ⟨rfl, rfl⟩

theorem blocks_any (n : Int) (w : World) (h1 : -9223372036854775808 ≤ n) (h2 : n ≤ 9223372036854775807) : Calls Try.prog 24 #[.int .i64 n] w fun e w' => e = .returned (.int .i64 (blocksP n)) ∧ w = w' := by
  by_cases h : n < 1
  · have hv : blocksP n = 0 := by unfold blocksP; rw [if_pos h]
    rw [hv]
    go_enter Try.func24, Try.ntmps24
    go_wp2
    go_ret
    exact ⟨rfl, rfl⟩
  · obtain ⟨m, hm⟩ : ∃ m : Nat, n - 1 = (m : Int) := ⟨(n - 1).toNat, by omega⟩
    obtain rfl : n = (m : Int) + 1 := by omega
    have e0 : (m : Int) + 1 - 1 = (m : Int) := by omega
    have hv : blocksP ((m : Int) + 1) = (m : Int) / 64 + 1 := by unfold blocksP; rw [if_neg h, e0]
    rw [hv]
    clear hm hv h1
    go_enter Try.func24, Try.ntmps24
    go_wp2
    go_ret
    exact ⟨rfl, rfl⟩
theorem rblocks_any (n : Int) (w : World) (h1 : -9223372036854775808 ≤ n) (h2 : n ≤ 9223372036854775807) : Calls Try.prog 25 #[.int .i64 n] w fun e w' => e = .returned (.int .i64 (blocksP n)) ∧ w = w' := by
  by_cases h : n < 1
  · have hv : blocksP n = 0 := by unfold blocksP; rw [if_pos h]
    rw [hv]
    go_enter Try.func25, Try.ntmps25
    go_wp2
    go_ret
    exact ⟨rfl, rfl⟩
  · obtain ⟨m, hm⟩ : ∃ m : Nat, n - 1 = (m : Int) := ⟨(n - 1).toNat, by omega⟩
    obtain rfl : n = (m : Int) + 1 := by omega
    have e0 : (m : Int) + 1 - 1 = (m : Int) := by omega
    have hv : blocksP ((m : Int) + 1) = (m : Int) / 64 + 1 := by unfold blocksP; rw [if_neg h, e0]
    rw [hv]
    clear hm hv h1
    go_enter Try.func25, Try.ntmps25
    go_wp2
    go_ret
    exact ⟨rfl, rfl⟩

/-- The statements' where: -1, -1, -1 where there is no way. -/
def whP (n : Int) : Int × Int × Int := if n < 0 ∨ 60 ≤ n then (-1, -1, -1) else ((wayP n).1, (wayP n).2.1, (wayP n).2.2.1)
def triV (p : Int × Int × Int) : Value := .agg #[.int .i64 p.1, .int .i64 p.2.1, .int .i64 p.2.2]
theorem wh_any (n : Int) (w : World) (h1 : -9223372036854775808 ≤ n) (h2 : n ≤ 9223372036854775807) : Calls Try.prog 26 #[.int .i64 n] w fun e w' => e = .returned (triV (whP n)) ∧ Below w.heap.size w w' := by
  obtain ⟨a, b, c, e, hp⟩ : ∃ a b c e, wayP n = (a, b, c, e) := ⟨_, _, _, _, rfl⟩
  have HW : Hid (∀ W : World, Calls Try.prog 20 #[.int .i64 n] W fun e' w' => e' = .returned (.tuple #[.int .i64 a, .int .i64 b, .int .i64 c, .int .i64 e]) ∧ W = w') := fun W => by
    have := way_any n W h1 h2
    rw [hp] at this
    exact this
  by_cases hb : n < 0 ∨ 60 ≤ n
  · have hv : whP n = (-1, -1, -1) := by unfold whP; rw [if_pos hb]
    rw [wayP_bad hb] at hp
    simp only [Prod.mk.injEq] at hp
    obtain ⟨rfl, rfl, rfl, rfl⟩ := hp
    rw [hv]
    clear hv hb h1 h2
    go_enter Try.func26, Try.ntmps26
    go_wp2_with (go_at_call 20; (with_reducible refine (HW.out _).mono ?_); rintro e' w' ⟨he, hw'⟩; obtain rfl := he; obtain rfl := hw')
    refine bodyPost_ret (v := .agg #[.int .i64 (-1), .int .i64 (-1), .int .i64 (-1)]) (by simp [results, Try.results26, go_sem]) rfl ⟨rfl, ?_⟩
    repeat (first | with_reducible exact Below.refl _ _ | with_reducible refine below_drewN ?_ _ | with_reducible refine Below.setCell ?_ ?_ _ | with_reducible refine Below.alloc ?_ ?_ _)
    all_goals (simp <;> omega)
  · have hv : whP n = (a, b, c) := by unfold whP; rw [if_neg hb, hp]
    have he : e = 0 := by
      have h : (wayP n).2.2.2 = 0 := by
        unfold wayP
        rw [if_neg hb]
        repeat' split
        all_goals rfl
      rw [hp] at h
      exact h
    subst he
    rw [hv]
    clear hv hb h1 h2 hp
    go_enter Try.func26, Try.ntmps26
    go_wp2_with (go_at_call 20; (with_reducible refine (HW.out _).mono ?_); rintro e' w' ⟨he, hw'⟩; obtain rfl := he; obtain rfl := hw')
    refine bodyPost_ret (v := .agg #[.int .i64 a, .int .i64 b, .int .i64 c]) (by simp [results, Try.results26, go_sem]) rfl ⟨rfl, ?_⟩
    repeat (first | with_reducible exact Below.refl _ _ | with_reducible refine below_drewN ?_ _ | with_reducible refine Below.setCell ?_ ?_ _ | with_reducible refine Below.alloc ?_ ?_ _)
    all_goals (simp <;> omega)

section
variable (W : World)
theorem guard45 : Try.prog.eqGuardType Try.prog.depth 45 = false := by kernel_rfl
theorem guard_at45 (x y : Operand) (xs ys : Array Value) (op : BinOp) : (eqGuard op 45 x y (.agg xs) (.agg ys)).run Try.prog W = .ok () W := run_eqGuard_agg W op 45 x y xs ys guard45
theorem tri_in (a b c a' b' c' : Int) : (Op.equalIn 10000 45 (.agg #[.int .i64 a, .int .i64 b, .int .i64 c]) (.agg #[.int .i64 a', .int .i64 b', .int .i64 c'])).run Try.prog W = .ok (a == a' && (b == b' && (c == c' && true))) W := by
  obtain ⟨i, hi⟩ : ∃ i, Try.prog.info? 3 = some i := ⟨_, rfl⟩
  rw [run_equalIn_array W 9999 _ _ Try.underlying45 hi, cells3]
  have e : List.range 3 = [0, 1, 2] := rfl
  rw [e]
  refine items_step W (part_i64 W _ _ a rfl) (part_i64 W _ _ a' rfl) (eq3 W _ _ _) ?_
  refine items_step W (part_i64 W _ _ b rfl) (part_i64 W _ _ b' rfl) (eq3 W _ _ _) ?_
  refine items_step W (part_i64 W _ _ c rfl) (part_i64 W _ _ c' rfl) (eq3 W _ _ _) ?_
  exact items_nil W _ _ _ _ _
theorem tri_eql (a b c a' b' c' : Int) : (binOp .eql 45 (.agg #[.int .i64 a, .int .i64 b, .int .i64 c]) (.agg #[.int .i64 a', .int .i64 b', .int .i64 c'])).run Try.prog W = .ok (.bool (a == a' && (b == b' && (c == c' && true)))) W := by
  rw [run_eql_struct, tri_in]
  rfl
theorem tri_neq (a b c a' b' c' : Int) : (binOp .neq 45 (.agg #[.int .i64 a, .int .i64 b, .int .i64 c]) (.agg #[.int .i64 a', .int .i64 b', .int .i64 c'])).run Try.prog W = .ok (.bool (!(a == a' && (b == b' && (c == c' && true))))) W := by
  rw [run_neq_struct, tri_in]
  rfl
end

set_option maxHeartbeats 800000 in
theorem shown_any (w : World) : Calls Try.prog 12 #[] w fun e w' => e = .returned (.bool true) ∧ Below w.heap.size w w' := by
  have hg := fun W x y xs ys op => guard_at45 W x y xs ys op
  have e7 : ∀ W : World, (binOp .eql 45 (.agg #[.int .i64 0, .int .i64 7, .int .i64 0]) (.agg #[.int .i64 0, .int .i64 7, .int .i64 0])).run Try.prog W = .ok (.bool true) W := fun W => tri_eql W 0 7 0 0 7 0
  have e8 : ∀ W : World, (binOp .eql 45 (.agg #[.int .i64 1, .int .i64 0, .int .i64 0]) (.agg #[.int .i64 1, .int .i64 0, .int .i64 0])).run Try.prog W = .ok (.bool true) W := fun W => tri_eql W 1 0 0 1 0 0
  have e40 : ∀ W : World, (binOp .eql 45 (.agg #[.int .i64 2, .int .i64 0, .int .i64 0]) (.agg #[.int .i64 2, .int .i64 0, .int .i64 0])).run Try.prog W = .ok (.bool true) W := fun W => tri_eql W 2 0 0 2 0 0
  have e59 : ∀ W : World, (binOp .eql 45 (.agg #[.int .i64 2, .int .i64 0, .int .i64 19]) (.agg #[.int .i64 2, .int .i64 0, .int .i64 19])).run Try.prog W = .ok (.bool true) W := fun W => tri_eql W 2 0 19 2 0 19
  have H7 : Hid (∀ W : World, Calls Try.prog 26 #[.int .i64 7] W fun e w' => e = .returned (.agg #[.int .i64 0, .int .i64 7, .int .i64 0]) ∧ Below W.heap.size W w') := fun W => wh_any 7 W (by omega) (by omega)
  have H8 : Hid (∀ W : World, Calls Try.prog 26 #[.int .i64 8] W fun e w' => e = .returned (.agg #[.int .i64 1, .int .i64 0, .int .i64 0]) ∧ Below W.heap.size W w') := fun W => wh_any 8 W (by omega) (by omega)
  have H40 : Hid (∀ W : World, Calls Try.prog 26 #[.int .i64 40] W fun e w' => e = .returned (.agg #[.int .i64 2, .int .i64 0, .int .i64 0]) ∧ Below W.heap.size W w') := fun W => wh_any 40 W (by omega) (by omega)
  have H59 : Hid (∀ W : World, Calls Try.prog 26 #[.int .i64 59] W fun e w' => e = .returned (.agg #[.int .i64 2, .int .i64 0, .int .i64 19]) ∧ Below W.heap.size W w') := fun W => wh_any 59 W (by omega) (by omega)
  have H65 : Hid (∀ W : World, Calls Try.prog 24 #[.int .i64 65] W fun e w' => e = .returned (.int .i64 2) ∧ W = w') := fun W => blocks_any 65 W (by omega) (by omega)
  go_enter Try.func12, Try.ntmps12
  go_wp2_with (first
    | (go_at_call 26; (with_reducible refine (H7.out _).mono ?_); rintro e w1 ⟨he, hb1⟩; obtain rfl := he; have HB1 := Lib.hid hb1; clear hb1)
    | (go_at_call 26; (with_reducible refine (H8.out _).mono ?_); rintro e w2 ⟨he, hb2⟩; obtain rfl := he; have HB2 := Lib.hid (HB1.out.trans (hb2.mono HB1.out.size)); clear hb2)
    | (go_at_call 26; (with_reducible refine (H40.out _).mono ?_); rintro e w3 ⟨he, hb3⟩; obtain rfl := he; have HB3 := Lib.hid (HB2.out.trans (hb3.mono HB2.out.size)); clear hb3)
    | (go_at_call 26; (with_reducible refine (H59.out _).mono ?_); rintro e w4 ⟨he, hb4⟩; obtain rfl := he; have HB4 := Lib.hid (HB3.out.trans (hb4.mono HB3.out.size)); clear hb4)
    | (go_at_call 24; (with_reducible refine (H65.out _).mono ?_); rintro e w5 ⟨he, hw5⟩; obtain rfl := he; obtain rfl := hw5))
  go_ret
  exact ⟨rfl, HB4.out⟩
end Go.Proofs.Ytahpdnfnaimbnaa.Inode
