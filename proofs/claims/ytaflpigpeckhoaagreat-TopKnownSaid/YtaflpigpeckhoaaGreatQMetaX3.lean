/-
  Package meta: New.
-/
import Derived.Test.YtaflpigpeckhoaaGreatQMetaN2
namespace Go.Proofs.YtaflpigpeckhoaaGreat.Meta
open Go.Proofs.YtaflpigpeckhoaaGreat
open Go.RowKit

theorem pnew_end {w W : World} {inn gn g0 g1 g2 g3 : Nat} {tm : Array Value} {df : List Deferred} (hi : inn ≤ 64) (hg : gn ≤ 64) {x0 x1 x2 x3 : List Value} (e0 : Intern.rowsV Intern.frees = x0) (e1 : Inode.intsV (List.replicate gn 0) = x1) (e2 : bytesV (List.replicate 64 0) = x2) (e3 : inosV (List.replicate inn .z) = x3) (hd : df = [])
    (hr : (results Tryz.f5 tm).run Tryz.prog W = .ok (.tuple #[.agg #[.slice (some ⟨g0, 0, none⟩) 16 16, .slice (some ⟨g1, 0, none⟩) gn gn, .slice (some ⟨g2, 0, none⟩) 64 64, .slice (some ⟨g3, 0, none⟩) inn inn], .int .i64 0]) W)
    (b0 : Bk W g0 117 x0) (b1 : Bk W g1 3 x1) (b2 : Bk W g2 5 x2) (b3 : Bk W g3 85 x3)
    (l0 : w.heap.size ≤ g0) (l1 : w.heap.size ≤ g1) (l2 : w.heap.size ≤ g2) (l3 : w.heap.size ≤ g3) (hb : Below w.heap.size w W) :
    bodyPost Tryz.prog Tryz.f5 (fun e w' => HandsM w (⟨List.replicate 16 .z, List.replicate gn 0, List.replicate 64 0, List.replicate inn .z⟩, 0) e w') .ret { tmps := tm, defers := df } W := by
  subst e0 e1 e2 e3
  exact bodyPost_ret hr hd (hands_new hi hg rfl b0 b1 b2 b3 l0 l1 l2 l3 hb)
theorem new_no {j i g p : Int} (hv : ¬ Super.Valid j i g p) (w : World) : Calls Tryz.prog 5 #[.agg #[.int .i64 j, .int .i64 i, .int .i64 g, .int .i64 p]] w fun e w' => HandsM w (.z, 1) e w' := by
  have HV : Hid (∀ u : World, Calls Tryz.prog 18 #[.agg #[.int .i64 j, .int .i64 i, .int .i64 g, .int .i64 p]] u fun e w' => e = .returned (.bool false) ∧ Super.Boxed u j i g p w') := Lib.hid (fun u => Super.right_no hv u)
  clear hv
  go_enter Tryz.func5, Tryz.ntmps5
  go_wp2_with (go_at_call 18; (with_reducible refine (HV.out _).mono ?_); rintro e w1 ⟨he, n, hw⟩; obtain rfl := he; subst hw)
  refine bodyPost_ret (v := .tuple #[.agg #[.slice none 0 0, .slice none 0 0, .slice none 0 0, .slice none 0 0], .int .i64 1]) (by simp [results, Tryz.results5, go_sem]) rfl (handsm_z ?_)
  repeat (first | with_reducible exact Below.refl _ _ | with_reducible refine below_drewN ?_ _ | with_reducible refine Below.drew ?_ | with_reducible refine Below.setCell ?_ ?_ _ | with_reducible refine Below.alloc ?_ ?_ _)
  all_goals (simp <;> omega)
set_option maxRecDepth 100000 in
set_option maxHeartbeats 6400000 in
theorem new_in (j p : Int) (gn inn : Nat) (hv : Super.Valid j (inn : Int) (gn : Int) p) (w : World) :
    Calls Tryz.prog 5 #[.agg #[.int .i64 j, .int .i64 (inn : Int), .int .i64 (gn : Int), .int .i64 p]] w fun e w' => HandsM w (⟨List.replicate 16 .z, List.replicate gn 0, List.replicate 64 0, List.replicate inn .z⟩, 0) e w' := by
  have hg64 : gn ≤ 64 := by have := hv.g2; omega
  have hi64 : inn ≤ 64 := by have := hv.i2; omega
  have h1 := Intern.make_rows
  have h2 := Inode.make_ints gn (by omega)
  have h3 : ∀ u : World, (Instr.makeSlice 33 (.int .i64 64) (.int .i64 64)).run Tryz.prog u = .ok (.slice (some ⟨u.heap.size, 0, none⟩) 64 64) (u.alloc (.cells (bytesV (List.replicate 64 0)).toArray 5)) := make_bytes 64 (by omega)
  have h4 := make_inos inn (by omega)
  have hg0 : (0 : Int) ≤ (gn : Int) := by omega
  have hi0 : (0 : Int) ≤ (inn : Int) := by omega
  have HV : Hid (∀ u : World, Calls Tryz.prog 18 #[.agg #[.int .i64 j, .int .i64 (inn : Int), .int .i64 (gn : Int), .int .i64 p]] u fun e w' => e = .returned (.bool true) ∧ Super.Boxed u j inn gn p w') := Lib.hid (fun u => Super.right_yes hv u)
  clear hv
  go_enter Tryz.func5, Tryz.ntmps5
  go_wp2_with (go_at_call 18; (with_reducible refine (HV.out _).mono ?_); rintro e w1 ⟨he, n, hw⟩; obtain rfl := he; subst hw)
  generalize hB0 : Intern.rowsV Intern.frees = x0 at *
  generalize hB1 : Inode.intsV (List.replicate gn 0) = x1 at *
  generalize hB2 : bytesV (List.replicate 64 0) = x2 at *
  generalize hB3 : inosV (List.replicate inn .z) = x3 at *
  go_region
  all_goals go_wp2
  all_goals (apply pnew_end hi64 hg64 hB0 hB1 hB2 hB3 rfl)
  all_goals first
    | (simp [results, Tryz.results5, go_sem]; exact ⟨rfl, rfl, rfl, rfl⟩)
    | (with_reducible refine bk_alloc ?_ _; (repeat (first | (with_reducible refine bk_here _ ?_; simp; done) | with_reducible refine bk_alloc ?_ _)); done)
    | (with_reducible refine bk_here _ ?_; simp; done)
    | omega
    | ((repeat (first | with_reducible exact Below.refl _ _ | with_reducible refine below_drewN ?_ _ | with_reducible refine Below.drew ?_ | with_reducible refine Below.setCell ?_ ?_ _ | with_reducible refine Below.alloc ?_ ?_ _)); all_goals (simp <;> omega); done)
theorem new_any (G : Geo) (w : World) : Calls Tryz.prog 5 #[.agg #[.int .i64 G.j, .int .i64 G.i, .int .i64 G.g, .int .i64 G.p]] w fun e w' => HandsM w (newP G) e w' := by
  by_cases hv : G.Ok
  · rw [newP_yes hv]
    have h1 := hv.i1
    have h2 := hv.g1
    obtain ⟨j, i, g, p⟩ := G
    obtain ⟨inn, hi⟩ := Int.eq_ofNat_of_zero_le (show 0 ≤ i by simp only at h1; omega)
    obtain ⟨gn, hg⟩ := Int.eq_ofNat_of_zero_le (show 0 ≤ g by simp only at h2; omega)
    subst hi hg
    exact new_in j p gn inn hv w
  · rw [newP_no hv]
    exact new_no hv w
end Go.Proofs.YtaflpigpeckhoaaGreat.Meta
