/-
  What is known of a new disk, as the document answers: four makes, in any order.
-/
import Derived.Test.YtcjkbmmjpkghlaaGreatQMetaN
namespace Go.Proofs.YtcjkbmmjpkghlaaGreat.Meta
open Go.Proofs.YtcjkbmmjpkghlaaGreat
open Go.RowKit

set_option maxRecDepth 100000 in
set_option maxHeartbeats 6400000 in
theorem rnew_in (j p : Int) (gn inn : Nat) (hv : Super.Valid j (inn : Int) (gn : Int) p) (w : World) :
    Calls Tryz.prog 48 #[.agg #[.int .i64 j, .int .i64 (inn : Int), .int .i64 (gn : Int), .int .i64 p]] w fun e w' => HandsM w (⟨List.replicate 16 .z, List.replicate gn 0, List.replicate 64 0, List.replicate inn .z⟩, 0) e w' := by
  have hg64 : gn ≤ 64 := by have := hv.g2; omega
  have hi64 : inn ≤ 64 := by have := hv.i2; omega
  have h1 := Intern.make_rows
  have h2 := Inode.make_ints gn (by omega)
  have h3 : ∀ u : World, (Instr.makeSlice 37 (.int .i64 64) (.int .i64 64)).run Tryz.prog u = .ok (.slice (some ⟨u.heap.size, 0, none⟩) 64 64) (u.alloc (.cells (bytesV (List.replicate 64 0)).toArray 5)) := make_bytes 64 (by omega)
  have h4 := make_inos inn (by omega)
  have hg0 : (0 : Int) ≤ (gn : Int) := by omega
  have hi0 : (0 : Int) ≤ (inn : Int) := by omega
  have HV : Hid (∀ u : World, Calls Tryz.prog 100 #[.agg #[.int .i64 j, .int .i64 (inn : Int), .int .i64 (gn : Int), .int .i64 p]] u fun e w' => e = .returned (.bool true) ∧ Super.Boxed u j inn gn p w') := Lib.hid (fun u => Super.rright_yes hv u)
  clear hv
  go_enter Tryz.func48, Tryz.ntmps48
  go_wp2_with (go_at_call 100; (with_reducible refine (HV.out _).mono ?_); rintro e w1 ⟨he, n, hw⟩; obtain rfl := he; subst hw)
  generalize hB0 : Intern.rowsV Intern.frees = x0 at *
  generalize hB1 : Inode.intsV (List.replicate gn 0) = x1 at *
  generalize hB2 : bytesV (List.replicate 64 0) = x2 at *
  generalize hB3 : inosV (List.replicate inn .z) = x3 at *
  go_region
  all_goals go_wp2
  all_goals (apply new_end hi64 hg64 hB0 hB1 hB2 hB3 rfl)
  all_goals first
    | (simp [results, Tryz.results48, go_sem]; exact ⟨rfl, rfl, rfl, rfl⟩)
    | (with_reducible refine bk_alloc ?_ _; (repeat (first | (with_reducible refine bk_here _ ?_; simp; done) | with_reducible refine bk_alloc ?_ _)); done)
    | (with_reducible refine bk_here _ ?_; simp; done)
    | omega
    | ((repeat (first | with_reducible exact Below.refl _ _ | with_reducible refine below_drewN ?_ _ | with_reducible refine Below.drew ?_ | with_reducible refine Below.setCell ?_ ?_ _ | with_reducible refine Below.alloc ?_ ?_ _)); all_goals (simp <;> omega); done)
noncomputable def newP (G : Geo) : Met × Nat := if Inode.decB G.Ok then (newM G, 0) else (.z, 1)
theorem newP_yes {G : Geo} (h : G.Ok) : newP G = (newM G, 0) := by unfold newP; rw [Inode.decB_yes h]; rfl
theorem newP_no {G : Geo} (h : ¬ G.Ok) : newP G = (.z, 1) := by unfold newP; rw [Inode.decB_no h]; rfl
theorem rnew_any (G : Geo) (w : World) : Calls Tryz.prog 48 #[.agg #[.int .i64 G.j, .int .i64 G.i, .int .i64 G.g, .int .i64 G.p]] w fun e w' => HandsM w (newP G) e w' := by
  by_cases hv : G.Ok
  · rw [newP_yes hv]
    have h1 := hv.i1
    have h2 := hv.g1
    obtain ⟨j, i, g, p⟩ := G
    obtain ⟨inn, hi⟩ := Int.eq_ofNat_of_zero_le (show 0 ≤ i by simp only at h1; omega)
    obtain ⟨gn, hg⟩ := Int.eq_ofNat_of_zero_le (show 0 ≤ g by simp only at h2; omega)
    subst hi hg
    exact rnew_in j p gn inn hv w
  · rw [newP_no hv]
    exact rnew_no hv w
end Go.Proofs.YtcjkbmmjpkghlaaGreat.Meta
