/-
  Statement JournalNeeds: how many sectors patches need, and how many there is room for. No condition.
-/
import Derived.Test.YtnkpmmijdkcdjaaO
namespace Go.Proofs.Ytnkpmmijdkcdjaa
open Go.RowKit Go.ChangeShapes Go.WideShapes Go.ChangeAt
attribute [local go_sem ↓] Go.wp_at_zero Go.wp_at_succ

theorem rneed_any (n : Int) (h : I64 n) (hm : n ≤ 1000000) (w : World) :
    Calls Try.prog 11 #[.int .i64 n] w fun e w' => e = .returned (.int .i64 (needI n)) ∧ w = w' := by
  obtain ⟨h1, h2⟩ := h
  unfold needI
  by_cases hn : n < 1
  · rw [if_pos hn]
    go_enter Try.func11, Try.ntmps11
    go_wp2
    go_ret
    exact ⟨rfl, rfl⟩
  · rw [if_neg hn]
    have e : n + 1 + (n - 1) / 15 = n + (n - 1) / 15 + 1 := by omega
    rw [e]
    clear e
    go_enter Try.func11, Try.ntmps11
    go_wp2
    go_ret
    exact ⟨rfl, rfl⟩

set_option maxRecDepth 100000 in
set_option maxHeartbeats 3200000 in
theorem needs_walk (n : Int) (h : I64 n) (m : Nat) (hm : m < 65536) (w : World) :
    Calls Try.prog 3 #[.int .i64 n, .int .u16 (m : Int)] w fun e w' => e = .returned (.bool true) ∧ Below w.heap.size w w' := by
  have Hs := Lib.hid (shown_any w)
  by_cases hn : 100000 < n
  · go_enter Try.func3, Try.ntmps3
    go_wp2_with (first | (go_at_call 9; refine Hs.out.mono ?_; rintro e w1 ⟨rfl, hb⟩))
    go_ret
    exact ⟨rfl, hb⟩
  · have Hneed := Lib.hid (fun W => need_any n h (by omega) W)
    have Hrneed := Lib.hid (fun W => rneed_any n h (by omega) W)
    have hi : ¬ (100000 < n) := hn
    have hne : (needI n != needI n) = false := by simp
    obtain ⟨k, hk⟩ : ∃ k, k = 3 + m % 4094 := ⟨_, rfl⟩
    have ek : (3 : Int) + (m : Int) % 4094 = (k : Int) := by omega
    have ek2 : (3 : Int) + (m : Int).tmod 4094 = (k : Int) := by rw [Int.tmod_eq_emod_of_nonneg (by omega)]; exact ek
    have hk3 : 3 ≤ k := by omega
    have hk4 : k ≤ 4096 := by omega
    have e1 : IntKind.i64.wrap (m : Int) = (m : Int) := by rw [IntKind.wrap_i64]; omega
    have Hk := Lib.hid hk
    generalize needI n = nd at *
    clear hk h
    go_enter Try.func3, Try.ntmps3
    go_wp2_with (first | (go_at_call 9; refine Hs.out.mono ?_; rintro e w1 ⟨rfl, hb1⟩) | (go_at_call 10; refine (Hneed.out _).mono ?_; rintro e w' ⟨rfl, rfl⟩) | (go_at_call 11; refine (Hrneed.out _).mono ?_; rintro e w' ⟨rfl, rfl⟩))
    refine (new_any (f := sx) _ k hk4 zx sx_zero).mono ?_
    rintro e w2 ⟨b, S, rfl, hb2, hD2, hS2⟩
    have hfl : (Dk.fresh k zx).safe.length = k := by simp [Dk.fresh]
    have HD2 := Lib.hid hD2
    have HS2 := Lib.hid hS2
    have Hb2 := Lib.hid (hb1.trans (hb2.mono hb1.size))
    have hw1 := hb1.size
    have Ho := Lib.hid (open_good (start := 0) (n := k) hD2 rfl (by omega) hk3 hk4 (by rw [hfl]; omega) (by rw [hfl]; exact hk4) (by show (0 : Nat) ≤ _; omega) zx (by show (List.replicate k zx)[0]? = _; rw [List.getElem?_replicate, if_pos (by omega)]) 0 [] 0 rfl (.inr ⟨rfl, rfl, rfl⟩) (by omega) (fun i p h => by simp at h) (fun p h => by cases h))
    clear hb1 hb2 hD2 hS2 hfl
    go_wp2_with fail
    refine Ho.out.mono ?_
    rintro e w3 ⟨v, rfl, hO⟩
    obtain ⟨bj, rfl, hO3, hb3, _⟩ := hO.good (B := w.heap.size) HD2.out (fun i hi => Nat.le_trans hw1 (HS2.out i hi)) Hb2.out.size rfl
    have Hb3 := Lib.hid (Hb2.out.trans hb3)
    obtain ⟨S3, d3, s3, j3, n3, l3⟩ := hO3
    have HR := Lib.hid (room_any w3 bj b 0 k 0 j3 hk3 hk4)
    have hr : room k ≤ 4096 := by unfold room; omega
    have HN1 := Lib.hid (need_any (room k) ⟨by omega, by omega⟩ (by omega) w3)
    have HN2 := Lib.hid (need_any ((room k : Int) + 1) ⟨by omega, by omega⟩ (by omega) w3)
    have n1 : needI (room k) ≤ (k : Int) - 1 := by unfold needI room; split <;> omega
    have n2 : (k : Int) - 1 < needI ((room k : Int) + 1) := by unfold needI room; split <;> omega
    clear hO d3 s3 j3 n3 l3 hb3 Ho
    generalize needI ((room k : Int) + 1) = x2 at *
    generalize needI (room k) = x1 at *
    generalize (room k) = rk at *
    go_wp2_with fail
    refine HR.out.mono ?_
    rintro e w' ⟨rfl, rfl⟩
    go_wp2_with fail
    refine HN1.out.mono ?_
    rintro e w' ⟨rfl, rfl⟩
    go_wp2_with fail
    refine HR.out.mono ?_
    rintro e w' ⟨rfl, rfl⟩
    go_wp2_with fail
    refine HN2.out.mono ?_
    rintro e w' ⟨rfl, rfl⟩
    go_wp2_with fail
    go_ret
    exact ⟨rfl, Hb3.out⟩
theorem needs_int (n : Int) (h1 : -9223372036854775808 ≤ n) (h2 : n ≤ 9223372036854775807) (x : Int) (h3 : 0 ≤ x) (h4 : x ≤ 65535) (w : World) :
    Calls Try.prog 3 #[.int .i64 n, .int .u16 x] w fun e w' => e = .returned (.bool true) ∧ Below w.heap.size w w' := by
  obtain ⟨m, rfl⟩ : ∃ m : Nat, x = (m : Int) := ⟨x.toNat, by omega⟩
  exact needs_walk n ⟨h1, h2⟩ m (by omega) w

set_option maxRecDepth 100000 in
theorem needs_contract (H : Type) (enc : TypeId × Value → H) (W : World) (base : Nat) (args : Array Value) (ds gs : List (DataW H)) (before : List MemPlace)
    (hval : ∀ (j : Nat) t v, Try.f3.params[j]? = some t → args[j]? = some v → Value.okWide Try.prog W .any base t v)
    (hW : DataW.Whole enc Try.prog Try.f3.params.toList Rows.journalNeedsSpec.vars false W args.toList ds gs before) :
    Calls Try.prog 3 args W fun e W' => ∃ v, e = .returned v ∧ Rows.journalNeedsSpec.post enc Try.prog Try.f3 false true false false W args v W' := by
  have hW' := hW
  have hlt : ∀ x ∈ before, x.block < W.heap.size := fun x hx => hW.lt x hx
  obtain ⟨p, q, hA0, hV, rfl, _, _⟩ := hW
  have hA : DataW.TrodAll enc Try.prog W 0 (fun _ => true) true Try.f3.params.toList args.toList ds p := hA0
  rw [Try.params3] at hA hval
  obtain ⟨v0, vs0, d0, ds0, p0, q0, hargs, rfl, rfl, h0, r0⟩ := trodAll_cons hA
  obtain ⟨v1, vs1, d1, ds1, p1, q1, rfl, rfl, rfl, h1, r1⟩ := trodAll_cons r0
  obtain ⟨rfl, rfl, rfl⟩ := trodAll_nil r1
  obtain rfl : args = #[v0, v1] := by cases args; simp_all
  obtain ⟨rfl, rfl⟩ := trodVars_none hV
  clear hA0
  obtain ⟨a0, rfl, rfl, rfl, wa0⟩ := open_int Try.underlying3 (hval 0 3 v0 rfl rfl) h0
  have bd0 := bounds_i64 wa0
  obtain ⟨a1, rfl, rfl, rfl, wa1⟩ := open_int Try.underlying22 (hval 1 22 v1 rfl rfl) h1
  have bd1 := bounds_u16 wa1
  refine (needs_int a0 (by omega) (by omega) a1 (by omega) (by omega) W).mono fun e W' ⟨he, hb⟩ => ?_
  subst he
  exact ⟨_, rfl, law_post laid (by kernel_rfl) Try.underlying4 (by rw [Try.params3]; decide +kernel) rfl hW' ⟨rfl, rfl, rfl⟩ hb⟩

set_option maxRecDepth 100000 in
theorem needs_lifted (os : Os) (started : os.Started) (H : Type) (enc : TypeId × Value → H) :
    ReturnsInHanded {} Try.checked os 3 .any (Rows.journalNeedsSpec.pre6 enc Try.prog Try.f3 Rows.journalNeedsRow.domain false) (Rows.journalNeedsSpec.post enc Try.prog Try.f3 false true false false) := by
  refine returnsInHanded_of_change (C := Try.checked) own started (by kernel_rfl) Try.func3
    (ChangeSpec.witness6 (enc := enc) (C := Try.checked) false ⟨#[], #[.int .i64 0, .int .u16 0], []⟩ 8 (by kernel_rfl) (by kernel_rfl) (by kernel_rfl) (by kernel_rfl)) ?_
  intro W base args ds gs before hval hW _ _
  exact needs_contract H enc W base args ds gs before hval hW

/-- JournalNeeds is true for every input. -/
theorem needs_holds : Rows.JournalNeedsSaid :=
  OpenClaim.holds_of_wide 3 Try.f3 rfl rfl rfl rfl rfl rfl rfl ⟨rfl, rfl, rfl, rfl, rfl⟩ rfl rfl rfl rfl rfl (by kernel_rfl) Try.func3 (by kernel_rfl)
    (of_decide_eq_true (by kernel_rfl)) (by unfold Func.isWrapper; first | (rw [if_pos (by decide +kernel)]; kernel_rfl) | (rw [if_neg (by decide +kernel)]; exact ⟨rfl, rfl⟩))
    (fun os started H enc _ => needs_lifted os started H enc)
end Go.Proofs.Ytnkpmmijdkcdjaa
