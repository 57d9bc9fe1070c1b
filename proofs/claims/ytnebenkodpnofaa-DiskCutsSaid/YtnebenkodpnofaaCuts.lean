/-
  Statement DiskCuts: behind a cut just so many operations more are done. No condition.
-/
import Derived.Test.YtnebenkodpnofaaO
namespace Go.Proofs.Ytnebenkodpnofaa
open Go.RowKit Go.ChangeShapes Go.WideShapes Go.ChangeAt
attribute [local go_sem ↓] Go.wp_at_zero Go.wp_at_succ

/-- The disk behind so many writes, cut at n. -/
structure Cutting (n j : Nat) (k : Dk Nat) : Prop where
  len : k.safe.length = 300
  un : k.un.length ≤ j
  cut : k.cut = true
  dead : k.dead = decide (n < j)
  left : k.left = ((n - min n j : Nat) : Int)
  done : k.done = ((min n j : Nat) : Int)

theorem wrap_small {x : Int} (h0 : -9223372036854775808 ≤ x) (h1 : x ≤ 9223372036854775807) : wrap64 x = x := by
  unfold wrap64
  omega

theorem Cutting.start (n : Nat) : Cutting n 0 ((Dk.fresh 300 0).cutAt (n : Int)) := by
  have e : (Dk.fresh 300 0).cutAt (n : Int) = ({ safe := List.replicate 300 0, un := [], dead := false, cut := decide (0 ≤ (n : Int)), left := (n : Int), done := 0 } : Dk Nat) := rfl
  rw [e]
  exact ⟨List.length_replicate, Nat.le_refl _, by simp, by simp, by simp, by simp⟩

theorem Cutting.step {n j : Nat} {k : Dk Nat} (h : Cutting n j k) (hn : n < 256) (hj : j < 256) (c : Nat) :
    (k.write (j : Int) c).1 = (if j < n then 0 else 6) ∧ Cutting n (j + 1) (k.write (j : Int) c).2 := by
  have hh : k.has (j : Int) = true := by simp [Dk.has, h.len]; omega
  have ho : k.off = decide (n ≤ j) := by
    simp only [Dk.off, h.dead, h.cut, h.left, Bool.true_and]
    by_cases h1 : n ≤ j
    · have : n - min n j = 0 := by omega
      simp [h1]
    · have h2 : ¬ n < j := by omega
      have h3 : ¬ ((n - min n j : Nat) : Int) = 0 := by omega
      simp [h1, h2]
      omega
  unfold Dk.write
  rw [hh, if_pos rfl, ho]
  by_cases h1 : n ≤ j
  · rw [decide_eq_true h1, if_pos rfl, if_neg (by omega)]
    refine ⟨rfl, ?_⟩
    have e : k.op = { k with dead := true } := by unfold Dk.op; rw [ho, decide_eq_true h1, if_pos rfl]
    rw [e]
    exact ⟨h.len, by have := h.un; simp; omega, h.cut, by simp; omega, by have := h.left; simp at this ⊢; omega, by have := h.done; simp at this ⊢; omega⟩
  · rw [decide_eq_false h1, if_neg (by decide), if_pos (by omega)]
    refine ⟨rfl, ?_⟩
    have e : k.op = { k with left := if k.cut then wrap64 (k.left - 1) else k.left, done := wrap64 (k.done + 1) } := by unfold Dk.op; rw [ho, decide_eq_false h1, if_neg (by decide)]
    unfold Dk.wrote
    rw [e]
    have h2 := h.left
    have h3 := h.done
    refine ⟨h.len, by have := h.un; simp; omega, h.cut, ?_, ?_, ?_⟩
    · show k.dead = _
      rw [h.dead]
      have h4 : ¬ n < j := by omega
      have h5 : ¬ n < j + 1 := by omega
      simp [h4, h5]
    · show (if k.cut then wrap64 (k.left - 1) else k.left) = _
      rw [h.cut, if_pos rfl, h2, wrap_small (by omega) (by omega)]
      omega
    · show wrap64 (k.done + 1) = _
      rw [h3, wrap_small (by omega) (by omega)]
      omega

set_option maxHeartbeats 1600000 in
theorem cuts_walk (n many : Nat) (hn : n < 256) (hmany : many < 256) (w : World) :
    Calls Try.prog 5 #[.int .u8 (n : Int), .int .u8 (many : Int)] w fun e w' => e = .returned (.bool true) ∧ Below w.heap.size w w' := by
  go_enter Try.func5, Try.ntmps5
  go_wp2_with fail
  refine (shown_any _).mono ?_
  rintro e w1 ⟨rfl, hb⟩
  have L1 := Lib.hid hb
  clear hb
  go_wp2_with fail
  refine (new_any (f := sec) _ 300 (by decide) 0 sec_zero).mono ?_
  rintro e w2 ⟨b, S, rfl, hb, hD, hS⟩
  have M0 : Hid (Mine w.heap.size w2 b (Dk.fresh 300 0) S) := ⟨hD, fun i hi => Nat.le_trans L1.out.size (hS i hi)⟩
  have L2 := Lib.hid (L1.out.trans (hb.mono L1.out.size))
  clear hb hD hS L1
  go_wp2_with fail
  refine (cut_any _ _ _ _ M0.out.1 _).mono ?_
  rintro e w3 ⟨rfl, ht⟩
  obtain ⟨⟨S1, hM⟩, hb⟩ := M0.out.turn ht L2.out.size
  have M1 := Lib.hid hM
  have L3 := Lib.hid (L2.out.trans hb)
  clear ht hM hb M0 L2
  go_wp2
  go_loopw [27] (fun i wr => ∃ (j : Nat) (k : Dk Nat) (S' : Nat → Prop), j ≤ many ∧ i = .int .i64 (j : Int) ∧ Mine w.heap.size wr b k S' ∧ Below w.heap.size w wr ∧ Cutting n j k) (fun i _ => many - (intOf i).toNat)
  case atStart => exact ⟨0, _, S1, Nat.zero_le _, rfl, M1.out, L3.out, Cutting.start n⟩
  case round =>
    obtain ⟨j, k, S', hj, rfl, hM, hL, hC⟩ := hrel
    have M := Lib.hid hM
    have L := Lib.hid hL
    have C := Lib.hid hC
    clear hM hL hC M1 L3
    by_cases hlt : j < many
    · have hcv : (j : Int) % 256 = (j : Int) := by omega
      obtain ⟨hw1, hw2⟩ := C.out.step hn (by omega) j
      have HW1 := Lib.hid hw1
      have HW2 := Lib.hid hw2
      clear hw1 hw2
      have hun : Hid (k.un.length ≤ 1073741824) := by have := C.out.un; unfold Hid; omega
      go_wp2_with fail
      refine (patch_any _ j (by omega) _).mono ?_
      rintro e u ⟨g, rfl, hg, hB, hb⟩
      have D := Lib.hid (M.out.below hb)
      have N := Lib.hid (M.out.new hg)
      have HB := Lib.hid hB
      have L1 := Lib.hid (L.out.trans (hb.mono L.out.size))
      clear hg hB hb
      go_wp2_with fail
      refine (write_same _ _ _ k D.out.1 (j : Int) j g HB.out N.out hun.out).mono ?_
      rintro e v ⟨rfl, ht⟩
      obtain ⟨⟨S2, hM2⟩, hb⟩ := D.out.turn ht L1.out.size
      have M2 := Lib.hid hM2
      have L2 := Lib.hid (L1.out.trans hb)
      clear ht hM2 hb M L D
      by_cases hc : j < n
      · have hc1 : (j : Int) < (n : Int) := by omega
        rw [HW1.out, if_pos hc]
        go_wp2
        go_roundw
        case rel => exact ⟨j + 1, _, S2, by omega, by go_num, M2.out, L2.out, HW2.out⟩
        case measure => simp [intOf]; omega
      · have hc1 : ¬ ((j : Int) < (n : Int)) := by omega
        rw [HW1.out, if_neg hc]
        go_wp2
        go_roundw
        case rel => exact ⟨j + 1, _, S2, by omega, by go_num, M2.out, L2.out, HW2.out⟩
        case measure => simp [intOf]; omega
    · obtain rfl : j = many := by omega
      by_cases hc : n < j
      · have h1 : Hid (k.done = (n : Int)) := by rw [C.out.done, Nat.min_eq_left (by omega)]; exact rfl
        have h2 : Hid (k.dead = true) := by rw [C.out.dead, decide_eq_true hc]; exact rfl
        have hm : min (n : Int) (j : Int) = (n : Int) := by omega
        have hc1 : (n : Int) < (j : Int) := by omega
        go_wp2_with (first
          | (go_at_call 20; refine (done_any _ _ _ k M.out.1).mono ?_; rintro e w' ⟨rfl, rfl⟩; rw [h1.out])
          | (go_at_call 19; refine (dead_any _ _ _ k M.out.1).mono ?_; rintro e w' ⟨rfl, rfl⟩; rw [h2.out]))
        go_ret
        exact ⟨rfl, L.out⟩
      · by_cases he : j < n
        · have h1 : Hid (k.done = (j : Int)) := by rw [C.out.done, Nat.min_eq_right (by omega)]; exact rfl
          have h2 : Hid (k.dead = false) := by rw [C.out.dead, decide_eq_false hc]; exact rfl
          have hm : min (n : Int) (j : Int) = (j : Int) := by omega
          have hc1 : ¬ ((n : Int) < (j : Int)) := by omega
          go_wp2_with (first
            | (go_at_call 20; refine (done_any _ _ _ k M.out.1).mono ?_; rintro e w' ⟨rfl, rfl⟩; rw [h1.out])
            | (go_at_call 19; refine (dead_any _ _ _ k M.out.1).mono ?_; rintro e w' ⟨rfl, rfl⟩; rw [h2.out]))
          go_ret
          exact ⟨rfl, L.out⟩
        · obtain rfl : j = n := by omega
          have h1 : Hid (k.done = (j : Int)) := by rw [C.out.done, Nat.min_eq_right (by omega)]; exact rfl
          have h2 : Hid (k.dead = false) := by rw [C.out.dead, decide_eq_false hc]; exact rfl
          have hm : min (j : Int) (j : Int) = (j : Int) := by omega
          have hc1 : ¬ ((j : Int) < (j : Int)) := by omega
          go_wp2_with (first
            | (go_at_call 20; refine (done_any _ _ _ k M.out.1).mono ?_; rintro e w' ⟨rfl, rfl⟩; rw [h1.out])
            | (go_at_call 19; refine (dead_any _ _ _ k M.out.1).mono ?_; rintro e w' ⟨rfl, rfl⟩; rw [h2.out]))
          go_ret
          exact ⟨rfl, L.out⟩

theorem cuts_int (x y : Int) (hx : 0 ≤ x) (hx2 : x < 256) (hy : 0 ≤ y) (hy2 : y < 256) (w : World) :
    Calls Try.prog 5 #[.int .u8 x, .int .u8 y] w fun e w' => e = .returned (.bool true) ∧ Below w.heap.size w w' := by
  obtain ⟨n, rfl⟩ : ∃ n : Nat, x = (n : Int) := ⟨x.toNat, by omega⟩
  obtain ⟨m, rfl⟩ : ∃ m : Nat, y = (m : Int) := ⟨y.toNat, by omega⟩
  exact cuts_walk n m (by omega) (by omega) w

theorem cuts_contract (H : Type) (enc : TypeId × Value → H) (W : World) (base : Nat) (args : Array Value) (ds gs : List (DataW H)) (before : List MemPlace)
    (hval : ∀ (j : Nat) t v, Try.f5.params[j]? = some t → args[j]? = some v → Value.okWide Try.prog W .any base t v)
    (hW : DataW.Whole enc Try.prog Try.f5.params.toList Rows.diskCutsSpec.vars false W args.toList ds gs before) :
    Calls Try.prog 5 args W fun e W' => ∃ v, e = .returned v ∧ Rows.diskCutsSpec.post enc Try.prog Try.f5 false true false false W args v W' := by
  have hW' := hW
  have hlt : ∀ x ∈ before, x.block < W.heap.size := fun x hx => hW.lt x hx
  obtain ⟨p, q, hA0, hV, rfl, _, _⟩ := hW
  have hA : DataW.TrodAll enc Try.prog W 0 (fun _ => true) true Try.f5.params.toList args.toList ds p := hA0
  rw [Try.params5] at hA hval
  obtain ⟨v0, vs0, d0, ds0, p0, q0, hargs, rfl, rfl, h0, r0⟩ := trodAll_cons hA
  obtain ⟨v1, vs1, d1, ds1, p1, q1, rfl, rfl, rfl, h1, r1⟩ := trodAll_cons r0
  obtain ⟨rfl, rfl, rfl⟩ := trodAll_nil r1
  obtain rfl : args = #[v0, v1] := by cases args; simp_all
  obtain ⟨rfl, rfl⟩ := trodVars_none hV
  clear hA0
  obtain ⟨a0, rfl, rfl, rfl, wa0⟩ := open_int Try.underlying5 (hval 0 5 v0 rfl rfl) h0
  have bd0 := bounds_u8 wa0
  obtain ⟨a1, rfl, rfl, rfl, wa1⟩ := open_int Try.underlying5 (hval 1 5 v1 rfl rfl) h1
  have bd1 := bounds_u8 wa1
  refine (cuts_int a0 a1 (by omega) (by omega) (by omega) (by omega) W).mono fun e W' ⟨he, hb⟩ => ?_
  subst he
  exact ⟨_, rfl, law_post laid (by kernel_rfl) Try.underlying4 (by rw [Try.params5]; decide +kernel) rfl hW' ⟨rfl, rfl, rfl⟩ hb⟩

set_option maxRecDepth 100000 in
theorem cuts_lifted (os : Os) (started : os.Started) (H : Type) (enc : TypeId × Value → H) :
    ReturnsInHanded {} Try.checked os 5 .any (Rows.diskCutsSpec.pre6 enc Try.prog Try.f5 Rows.diskCutsRow.domain false) (Rows.diskCutsSpec.post enc Try.prog Try.f5 false true false false) := by
  refine returnsInHanded_of_change (C := Try.checked) own started (by kernel_rfl) Try.func5
    (ChangeSpec.witness6 (enc := enc) (C := Try.checked) false ⟨#[], #[.int .u8 0, .int .u8 0], []⟩ 8 (by kernel_rfl) (by kernel_rfl) (by kernel_rfl) (by kernel_rfl)) ?_
  intro W base args ds gs before hval hW _ _
  exact cuts_contract H enc W base args ds gs before hval hW

/-- DiskCuts is true for every input. -/
theorem cuts_holds : Rows.DiskCutsSaid :=
  OpenClaim.holds_of_wide 5 Try.f5 rfl rfl rfl rfl rfl rfl rfl ⟨rfl, rfl, rfl, rfl, rfl⟩ rfl rfl rfl rfl rfl (by kernel_rfl) Try.func5 (by kernel_rfl)
    (of_decide_eq_true (by kernel_rfl)) (by unfold Func.isWrapper; first | (rw [if_pos (by decide +kernel)]; kernel_rfl) | (rw [if_neg (by decide +kernel)]; exact ⟨rfl, rfl⟩))
    (fun os started H enc _ => cuts_lifted os started H enc)
end Go.Proofs.Ytnebenkodpnofaa
