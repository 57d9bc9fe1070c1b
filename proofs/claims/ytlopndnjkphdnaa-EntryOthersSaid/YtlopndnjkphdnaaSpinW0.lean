/-
  The small functions of package spin and of the document's own answer: what each call returns.
-/
import Derived.Test.YtlopndnjkphdnaaRows
import Derived.Test.YtlopndnjkphdnaaSpinM
import Derived.Test.YtlopndnjkphdnaaSpinD
import Derived.WalkKit
import Derived.WalkSpells
import Derived.WalkLawsBesides
import Derived.BigQuiet
import Derived.Deep.QuietTactic
import Derived.Deep.RegionHeld3
import Derived.StillTailTactics
import Derived.Lib.Hide
namespace Go.Proofs.Ytlopndnjkphdnaa.Spin
open Go.RowKit

theorem ret_int {k : IntKind} {a b : Int} (h : a = b) : Ending.returned (.int k a) = .returned (.int k b) := by rw [h]
theorem tmod_neg {n : Int} (h : n < 0) : n.tmod 257 = -((-n) % 257) := by
  have : n.tmod 257 = -((-n).tmod 257) := by rw [Int.neg_tmod, Int.neg_neg]
  rw [this, Int.tmod_eq_emod_of_nonneg (by omega)]

theorem modulo_any (n : Int) (w : World) : Calls Try.prog 58 #[.int .i64 n] w fun e w' => e = .returned (.int .i64 (res n)) ∧ w = w' := by
  by_cases h : 0 ≤ n
  · go_enter Try.func58, Try.ntmps58
    go_wp2
    go_ret
    exact ⟨rfl, rfl⟩
  · have hn : n < 0 := by omega
    have hr : n.tmod 257 ≤ 0 := by rw [tmod_neg hn]; omega
    have hr2 : -257 < n.tmod 257 := by rw [tmod_neg hn]; omega
    by_cases h0 : n.tmod 257 < 0
    · go_enter Try.func58, Try.ntmps58
      go_wp2
      go_ret
      exact ⟨ret_int (by unfold res; rw [tmod_neg hn] at h0 ⊢; omega), rfl⟩
    · have h1 : decide (n.tmod 257 < 0) = false := decide_eq_false h0
      go_enter Try.func58, Try.ntmps58
      go_wp2
      go_ret
      exact ⟨ret_int (by unfold res; rw [tmod_neg hn] at h0 ⊢; omega), rfl⟩
theorem rest_any (n : Int) (w : World) : Calls Try.prog 51 #[.int .i64 n] w fun e w' => e = .returned (.int .i64 (res n)) ∧ w = w' := by
  by_cases h : 0 ≤ n
  · go_enter Try.func51, Try.ntmps51
    go_wp2
    go_ret
    exact ⟨rfl, rfl⟩
  · have hn : n < 0 := by omega
    have hr : n.tmod 257 ≤ 0 := by rw [tmod_neg hn]; omega
    have hr2 : -257 < n.tmod 257 := by rw [tmod_neg hn]; omega
    by_cases h0 : n.tmod 257 < 0
    · go_enter Try.func51, Try.ntmps51
      go_wp2
      go_ret
      exact ⟨ret_int (by unfold res; rw [tmod_neg hn] at h0 ⊢; omega), rfl⟩
    · have h1 : decide (n.tmod 257 < 0) = false := decide_eq_false h0
      go_enter Try.func51, Try.ntmps51
      go_wp2
      go_ret
      exact ⟨ret_int (by unfold res; rw [tmod_neg hn] at h0 ⊢; omega), rfl⟩

theorem keepC {w1 w2 : World} {B : Nat} (hb : Below B w1 w2) {p : Addr} {v : Value} (hp : p.block < B) (h : w1.cell? p = some v) : w2.cell? p = some v := (hb.cell hp).trans h

set_option maxRecDepth 100000 in
theorem normal_any (x y : Int) (w : World) : Calls Try.prog 49 #[.agg #[.int .i64 x, .int .i64 y]] w fun e w' => e = .returned (.agg #[.int .i64 (res x), .int .i64 (res y)]) ∧ Below w.heap.size w w' := by
  go_enter Try.func49, Try.ntmps49
  go_wp2
  go_region_held3 (fun w' => w'.cell? ⟨w.heap.size, 0, none⟩ = some (.int .i64 x) ∧ w'.cell? ⟨w.heap.size, 1, none⟩ = some (.int .i64 y)) (go_keep)
    ((go_at_call 58; refine (modulo_any _ _).mono ?_; rintro e w' ⟨rfl, rfl⟩))
  go_wp2
  exact bodyPost_ret (v := .agg #[.int .i64 (res x), .int .i64 (res y)]) (by simp [results, Try.results49, go_sem]) rfl ⟨rfl, ((((Below.refl _ _).alloc (Nat.le_refl _) _).alloc (by simp) _)).drew⟩
set_option maxRecDepth 100000 in
theorem norm_any (x y : Int) (w : World) : Calls Try.prog 46 #[.agg #[.int .i64 x, .int .i64 y]] w fun e w' => e = .returned (.agg #[.int .i64 (res x), .int .i64 (res y)]) ∧ Below w.heap.size w w' := by
  go_enter Try.func46, Try.ntmps46
  go_wp2
  go_region_held3 (fun w' => w'.cell? ⟨w.heap.size, 0, none⟩ = some (.int .i64 x) ∧ w'.cell? ⟨w.heap.size, 1, none⟩ = some (.int .i64 y)) (go_keep)
    ((go_at_call 51; refine (rest_any _ _).mono ?_; rintro e w' ⟨rfl, rfl⟩))
  go_wp2
  exact bodyPost_ret (v := .agg #[.int .i64 (res x), .int .i64 (res y)]) (by simp [results, Try.results46, go_sem]) rfl ⟨rfl, ((((Below.refl _ _).alloc (Nat.le_refl _) _).alloc (by simp) _)).drew⟩

theorem bcell {W w1 : World} (hb : Below W.heap.size W w1) : (∀ b o, b < W.heap.size → w1.cell? ⟨b, o, none⟩ = W.cell? ⟨b, o, none⟩) ∧ (∀ b o, b < W.heap.size → w1.frozen? ⟨b, o, none⟩ = W.frozen? ⟨b, o, none⟩) :=
  ⟨fun b o h => hb.cell (p := ⟨b, o, none⟩) h, fun b o h => hb.frozen (p := ⟨b, o, none⟩) h⟩

theorem cvt_exact (z : Int) (h0 : 0 ≤ z) (h : z ≤ 256) (W : World) : (convert 3 91 (.int .i64 z)).run Try.prog W = .ok (.float .f64 (dbl z)) W := by
  rw [run_convert_int_float W 3 91 .i64 .f64 z (by rw [Try.underlying3]; rfl) Try.underlying91]
  unfold floatOfInt
  rw [nearest_int z (by omega)]
theorem back_exact (z : Int) (h0 : -1048576 ≤ z) (h : z ≤ 1048576) (W : World) : (convert 91 3 (.float .f64 (dbl z))).run Try.prog W = .ok (.int .i64 z) W :=
  run_convert_float_int W 91 3 .f64 .i64 (dbl z) z (by rw [Try.underlying91]; rfl) Try.underlying3 (int_exact z (by omega))

theorem number_any (x y : Int) (w : World) : Calls Try.prog 67 #[.agg #[.int .i64 x, .int .i64 y]] w fun e w' => e = .returned (.complex .f64 (dbl (res x)) (dbl (res y))) ∧ Below w.heap.size w w' := by
  have cv := fun (z : Int) (W : World) => cvt_exact (res z) (res_bd z).1 (res_bd z).2 W
  go_enter Try.func67, Try.ntmps67
  go_wp2_with ((go_at_call 49; refine (normal_any _ _ _).mono ?_; rintro e w1 ⟨rfl, hb⟩; obtain ⟨hc, hf⟩ := bcell hb))
  go_ret
  exact ⟨rfl, ((((Below.refl _ _).alloc (Nat.le_refl _) _).trans (hb.mono (by simp))).setCell (by simp) _).setCell (by simp) _⟩

theorem spinOf_any (x y : Int) (w : World) (hx0 : -1048576 ≤ x) (hx : x ≤ 1048576) (hy0 : -1048576 ≤ y) (hy : y ≤ 1048576) :
    Calls Try.prog 66 #[.complex .f64 (dbl x) (dbl y)] w fun e w' => e = .returned (.agg #[.int .i64 (res x), .int .i64 (res y)]) ∧ Below w.heap.size w w' := by
  have cx := fun (W : World) => back_exact x hx0 hx W
  have cy := fun (W : World) => back_exact y hy0 hy W
  go_enter Try.func66, Try.ntmps66
  go_wp2_with ((go_at_call 49; refine (normal_any _ _ _).mono ?_; rintro e w1 ⟨rfl, hb⟩; obtain ⟨hc, hf⟩ := bcell hb))
  exact bodyPost_ret (v := .agg #[.int .i64 (res x), .int .i64 (res y)]) (by simp [results, Try.results66, go_sem, hc]) rfl ⟨rfl, ((((Below.refl _ _).alloc (Nat.le_refl _) _).trans (hb.mono (by simp))).setCell (by simp) _).setCell (by simp) _⟩

end Go.Proofs.Ytlopndnjkphdnaa.Spin
