/-
  InodeMore: more bytes never need fewer blocks, and a sector's bytes more need one block more.
-/
import Derived.Test.YtahpdnfnaimbnaaO
namespace Go.Proofs.Ytahpdnfnaimbnaa
open Go.ChangeShapes Go.WideShapes Go.ChangeAt Go.RowKit Inode

theorem blocks_mono {m n : Int} (h : m ≤ n) : blocksP m ≤ blocksP n := by
  unfold blocksP
  split <;> split <;> omega
theorem blocks_next {m : Int} (h : 0 ≤ m) : blocksP (m + 64) = blocksP m + 1 := by
  unfold blocksP
  split <;> split <;> omega
theorem blocks_neg {m : Int} (h : 0 ≤ m) : blocksP (-m) = 0 := by
  unfold blocksP
  rw [if_pos (by omega)]
theorem blocks_le {m : Int} (h : 0 ≤ m) (h2 : m ≤ 9223372036854775807) : 0 ≤ blocksP m ∧ blocksP m ≤ 144115188075855872 := by
  unfold blocksP
  split <;> omega

set_option maxHeartbeats 800000 in
theorem more_walk (a b : Int) (ha : 0 ≤ a ∧ a ≤ 18446744073709551615) (hb : 0 ≤ b ∧ b ≤ 18446744073709551615) (w : World) :
    Calls Try.prog 9 #[.int .u64 a, .int .u64 b] w fun e w' => e = .returned (.bool true) ∧ Below w.heap.size w w' := by
  obtain ⟨x, rfl⟩ : ∃ x : Nat, a = (x : Int) := ⟨a.toNat, by omega⟩
  obtain ⟨y, rfl⟩ : ∃ y : Nat, b = (y : Int) := ⟨b.toNat, by omega⟩
  obtain ⟨m, hm⟩ : ∃ m : Nat, (x : Int) % 1099511627776 = (m : Int) := ⟨x % 1099511627776, by omega⟩
  obtain ⟨n, hn⟩ : ∃ n : Nat, (y : Int) % 1099511627776 = (n : Int) := ⟨y % 1099511627776, by omega⟩
  have hm2 : m < 1099511627776 := by omega
  have hn2 : n < 1099511627776 := by omega
  have e1 : IntKind.i64.wrap (m : Int) = (m : Int) := IntWalk.i64_in _ (by omega)
  have e2 : IntKind.i64.wrap (n : Int) = (n : Int) := IntWalk.i64_in _ (by omega)
  have e3 : IntKind.i64.wrap ((m : Int) + 64) = (m : Int) + 64 := IntWalk.i64_in _ (by omega)
  have e4 : IntKind.i64.wrap (-(m : Int)) = -(m : Int) := IntWalk.i64_in _ (by omega)
  have HM : Hid (∀ W : World, Calls Try.prog 24 #[.int .i64 (m : Int)] W fun e w' => e = .returned (.int .i64 (blocksP m)) ∧ W = w') := fun W => blocks_any _ W (by omega) (by omega)
  have HN : Hid (∀ W : World, Calls Try.prog 24 #[.int .i64 (n : Int)] W fun e w' => e = .returned (.int .i64 (blocksP n)) ∧ W = w') := fun W => blocks_any _ W (by omega) (by omega)
  have H4 : Hid (∀ W : World, Calls Try.prog 24 #[.int .i64 ((m : Int) + 64)] W fun e w' => e = .returned (.int .i64 (blocksP m + 1)) ∧ W = w') := fun W => by
    have := blocks_any ((m : Int) + 64) W (by omega) (by omega)
    rwa [blocks_next (by omega)] at this
  have H0 : Hid (∀ W : World, Calls Try.prog 24 #[.int .i64 (-(m : Int))] W fun e w' => e = .returned (.int .i64 0) ∧ W = w') := fun W => by
    have := blocks_any (-(m : Int)) W (by omega) (by omega)
    rwa [blocks_neg (by omega)] at this
  have hle := fun h : m ≤ n => blocks_mono (show (m : Int) ≤ (n : Int) by omega)
  obtain ⟨hb0, hb1⟩ := blocks_le (m := (m : Int)) (by omega) (by omega)
  generalize blocksP m = u at *
  generalize blocksP n = v at *
  have e5 : IntKind.i64.wrap (u + 1) = u + 1 := IntWalk.i64_in _ (by omega)
  by_cases hlt : n < m
  · have q0 : decide ((m : Int) > (n : Int)) = true := decide_eq_true (by omega)
    clear hle hm2 hn2 ha hb
    go_enter Try.func9, Try.ntmps9
    go_wp2_with (first
      | (go_at_call 12; (with_reducible refine (shown_any _).mono ?_); rintro e w1 ⟨he, hb1⟩; obtain rfl := he; have HB1 := Lib.hid hb1; clear hb1)
      | (go_at_call 24; (with_reducible refine (H4.out _).mono ?_); rintro e w' ⟨he, hw'⟩; obtain rfl := he; obtain rfl := hw')
      | (go_at_call 24; (with_reducible refine (HM.out _).mono ?_); rintro e w' ⟨he, hw'⟩; obtain rfl := he; obtain rfl := hw')
      | (go_at_call 24; (with_reducible refine (H0.out _).mono ?_); rintro e w' ⟨he, hw'⟩; obtain rfl := he; obtain rfl := hw'))
    go_ret
    exact ⟨rfl, HB1.out⟩
  · have q0 : decide ((m : Int) > (n : Int)) = false := decide_eq_false (by omega)
    have hle := hle (by omega)
    have q1 : decide (u ≤ v) = true := decide_eq_true hle
    clear hm2 hn2 ha hb
    go_enter Try.func9, Try.ntmps9
    go_wp2_with (first
      | (go_at_call 12; (with_reducible refine (shown_any _).mono ?_); rintro e w1 ⟨he, hb1⟩; obtain rfl := he; have HB1 := Lib.hid hb1; clear hb1)
      | (go_at_call 24; (with_reducible refine (H4.out _).mono ?_); rintro e w' ⟨he, hw'⟩; obtain rfl := he; obtain rfl := hw')
      | (go_at_call 24; (with_reducible refine (HM.out _).mono ?_); rintro e w' ⟨he, hw'⟩; obtain rfl := he; obtain rfl := hw')
      | (go_at_call 24; (with_reducible refine (HN.out _).mono ?_); rintro e w' ⟨he, hw'⟩; obtain rfl := he; obtain rfl := hw')
      | (go_at_call 24; (with_reducible refine (H0.out _).mono ?_); rintro e w' ⟨he, hw'⟩; obtain rfl := he; obtain rfl := hw'))
    go_ret
    exact ⟨rfl, HB1.out⟩

theorem more_contract (H : Type) (enc : TypeId × Value → H) (W : World) (base : Nat) (args : Array Value) (ds gs : List (DataW H)) (before : List MemPlace)
    (hval : ∀ (j : Nat) t v, Try.f9.params[j]? = some t → args[j]? = some v → Value.okWide Try.prog W .any base t v)
    (hW : DataW.Whole enc Try.prog Try.f9.params.toList Rows.inodeMoreSpec.vars false W args.toList ds gs before) :
    Calls Try.prog 9 args W fun e W' => ∃ v, e = .returned v ∧ Rows.inodeMoreSpec.post enc Try.prog Try.f9 false true false false W args v W' := by
  have hW' := hW
  have hlt : ∀ x ∈ before, x.block < W.heap.size := fun x hx => hW.lt x hx
  obtain ⟨p, q, hA0, hV, rfl, _, _⟩ := hW
  have hA : DataW.TrodAll enc Try.prog W 0 (fun _ => true) true Try.f9.params.toList args.toList ds p := hA0
  rw [Try.params9] at hA hval
  obtain ⟨v0, vs0, d0, ds0, p0, q0, hargs, rfl, rfl, h0, r0⟩ := trodAll_cons hA
  obtain ⟨v1, vs1, d1, ds1, p1, q1, rfl, rfl, rfl, h1, r1⟩ := trodAll_cons r0
  obtain ⟨rfl, rfl, rfl⟩ := trodAll_nil r1
  obtain rfl : args = #[v0, v1] := by cases args; simp_all
  obtain ⟨rfl, rfl⟩ := trodVars_none hV
  clear hA0
  obtain ⟨a0, rfl, rfl, rfl, wa0⟩ := open_int Try.underlying48 (hval 0 48 v0 rfl rfl) h0
  have bd0 := bounds_u64 wa0
  obtain ⟨a1, rfl, rfl, rfl, wa1⟩ := open_int Try.underlying48 (hval 1 48 v1 rfl rfl) h1
  have bd1 := bounds_u64 wa1
  refine (more_walk a0 a1 ⟨by omega, by omega⟩ ⟨by omega, by omega⟩ W).mono fun e W' ⟨he, hb⟩ => ?_
  subst he
  exact ⟨_, rfl, law_post laid (by kernel_rfl) Try.underlying4 (by rw [Try.params9]; decide +kernel) rfl hW' ⟨rfl, rfl, rfl⟩ hb⟩

set_option maxRecDepth 100000 in
theorem more_lifted (os : Os) (started : os.Started) (H : Type) (enc : TypeId × Value → H) :
    ReturnsInHanded {} Try.checked os 9 .any (Rows.inodeMoreSpec.pre6 enc Try.prog Try.f9 Rows.inodeMoreRow.domain false) (Rows.inodeMoreSpec.post enc Try.prog Try.f9 false true false false) := by
  refine returnsInHanded_of_change (C := Try.checked) own started (by kernel_rfl) Try.func9
    (ChangeSpec.witness6 (enc := enc) (C := Try.checked) false ⟨#[], #[.int .u64 0, .int .u64 0], []⟩ 8 (by kernel_rfl) (by kernel_rfl) (by kernel_rfl) (by kernel_rfl)) ?_
  intro W base args ds gs before hval hW _ _
  exact more_contract H enc W base args ds gs before hval hW

/-- InodeMore is true for every input. -/
theorem more_holds : Rows.InodeMoreSaid :=
  OpenClaim.holds_of_wide 9 Try.f9 rfl rfl rfl rfl rfl rfl rfl ⟨rfl, rfl, rfl, rfl, rfl⟩ rfl rfl rfl rfl rfl (by kernel_rfl) Try.func9 (by kernel_rfl)
    (of_decide_eq_true (by kernel_rfl)) (by unfold Func.isWrapper; first | (rw [if_pos (by decide +kernel)]; kernel_rfl) | (rw [if_neg (by decide +kernel)]; exact ⟨rfl, rfl⟩))
    (fun os started H enc _ => more_lifted os started H enc)
end Go.Proofs.Ytahpdnfnaimbnaa
