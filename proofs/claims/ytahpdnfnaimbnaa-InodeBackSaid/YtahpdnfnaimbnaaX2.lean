/-
  The pointers of an inode, taken out of it and put into it: package inode's pointersOf and withPointers.
-/
import Derived.Test.YtahpdnfnaimbnaaX1
import Derived.Deep.RegionWith
import Derived.Deep.RegionHeld3
import Derived.Laws.CopyOwn
namespace Go.Proofs.Ytahpdnfnaimbnaa.Inode
open Go.RowKit

theorem size3 : (Try.prog.info? 3).map (·.size) = some 1 := by kernel_rfl
theorem ten_cells {w : World} {g : Nat} {e : TypeId} {a0 a1 a2 a3 a4 a5 a6 a7 a8 a9 : Value} (h : Bk w g e [a0, a1, a2, a3, a4, a5, a6, a7, a8, a9]) : w.cell? ⟨g, 0, none⟩ = some a0 ∧ w.cell? ⟨g, 1, none⟩ = some a1 ∧ w.cell? ⟨g, 2, none⟩ = some a2 ∧ w.cell? ⟨g, 3, none⟩ = some a3 ∧ w.cell? ⟨g, 4, none⟩ = some a4 ∧ w.cell? ⟨g, 5, none⟩ = some a5 ∧ w.cell? ⟨g, 6, none⟩ = some a6 ∧ w.cell? ⟨g, 7, none⟩ = some a7 ∧ w.cell? ⟨g, 8, none⟩ = some a8 ∧ w.cell? ⟨g, 9, none⟩ = some a9 := ⟨h.cell 0, h.cell 1, h.cell 2, h.cell 3, h.cell 4, h.cell 5, h.cell 6, h.cell 7, h.cell 8, h.cell 9⟩
theorem ten_frozen {w : World} {g : Nat} {e : TypeId} {a0 a1 a2 a3 a4 a5 a6 a7 a8 a9 : Value} (h : Bk w g e [a0, a1, a2, a3, a4, a5, a6, a7, a8, a9]) : w.frozen? ⟨g, 0, none⟩ = false ∧ w.frozen? ⟨g, 1, none⟩ = false ∧ w.frozen? ⟨g, 2, none⟩ = false ∧ w.frozen? ⟨g, 3, none⟩ = false ∧ w.frozen? ⟨g, 4, none⟩ = false ∧ w.frozen? ⟨g, 5, none⟩ = false ∧ w.frozen? ⟨g, 6, none⟩ = false ∧ w.frozen? ⟨g, 7, none⟩ = false ∧ w.frozen? ⟨g, 8, none⟩ = false ∧ w.frozen? ⟨g, 9, none⟩ = false := ⟨h.frozen 0, h.frozen 1, h.frozen 2, h.frozen 3, h.frozen 4, h.frozen 5, h.frozen 6, h.frozen 7, h.frozen 8, h.frozen 9⟩
theorem ino_cells {w : World} {g : Nat} {e : TypeId} {a0 a1 a2 a3 a4 a5 a6 a7 a8 a9 a10 a11 a12 a13 : Value} (h : Bk w g e [a0, a1, a2, a3, a4, a5, a6, a7, a8, a9, a10, a11, a12, a13]) : w.cell? ⟨g, 0, none⟩ = some a0 ∧ w.cell? ⟨g, 1, none⟩ = some a1 ∧ w.cell? ⟨g, 2, none⟩ = some a2 ∧ w.cell? ⟨g, 3, none⟩ = some a3 ∧ w.cell? ⟨g, 4, none⟩ = some a4 ∧ w.cell? ⟨g, 5, none⟩ = some a5 ∧ w.cell? ⟨g, 6, none⟩ = some a6 ∧ w.cell? ⟨g, 7, none⟩ = some a7 ∧ w.cell? ⟨g, 8, none⟩ = some a8 ∧ w.cell? ⟨g, 9, none⟩ = some a9 ∧ w.cell? ⟨g, 10, none⟩ = some a10 ∧ w.cell? ⟨g, 11, none⟩ = some a11 ∧ w.cell? ⟨g, 12, none⟩ = some a12 ∧ w.cell? ⟨g, 13, none⟩ = some a13 := ⟨h.cell 0, h.cell 1, h.cell 2, h.cell 3, h.cell 4, h.cell 5, h.cell 6, h.cell 7, h.cell 8, h.cell 9, h.cell 10, h.cell 11, h.cell 12, h.cell 13⟩
theorem ino_frozen {w : World} {g : Nat} {e : TypeId} {a0 a1 a2 a3 a4 a5 a6 a7 a8 a9 a10 a11 a12 a13 : Value} (h : Bk w g e [a0, a1, a2, a3, a4, a5, a6, a7, a8, a9, a10, a11, a12, a13]) : w.frozen? ⟨g, 0, none⟩ = false ∧ w.frozen? ⟨g, 1, none⟩ = false ∧ w.frozen? ⟨g, 2, none⟩ = false ∧ w.frozen? ⟨g, 3, none⟩ = false ∧ w.frozen? ⟨g, 4, none⟩ = false ∧ w.frozen? ⟨g, 5, none⟩ = false ∧ w.frozen? ⟨g, 6, none⟩ = false ∧ w.frozen? ⟨g, 7, none⟩ = false ∧ w.frozen? ⟨g, 8, none⟩ = false ∧ w.frozen? ⟨g, 9, none⟩ = false ∧ w.frozen? ⟨g, 10, none⟩ = false ∧ w.frozen? ⟨g, 11, none⟩ = false ∧ w.frozen? ⟨g, 12, none⟩ = false ∧ w.frozen? ⟨g, 13, none⟩ = false := ⟨h.frozen 0, h.frozen 1, h.frozen 2, h.frozen 3, h.frozen 4, h.frozen 5, h.frozen 6, h.frozen 7, h.frozen 8, h.frozen 9, h.frozen 10, h.frozen 11, h.frozen 12, h.frozen 13⟩
theorem oneints (l : List Int) : ∀ v ∈ intsV l, v.oneCell' = true := intsV_one l
/-- Three blocks made. -/
theorem three (w : World) (xs ys zs : List Value) (a b c : TypeId) : ∀ W, W = ((w.alloc (.cells xs.toArray a)).alloc (.cells ys.toArray b)).alloc (.cells zs.toArray c) →
    Bk W w.heap.size a xs ∧ Bk W (w.heap.size + 1) b ys ∧ Bk W (w.heap.size + 1 + 1) c zs ∧ Below w.heap.size w W ∧ W.heap.size = w.heap.size + 3 := by
  rintro W rfl
  have h1 := Bk.new w a xs
  have b1 := alloc_below w (.cells xs.toArray a)
  have s1 : (w.alloc (.cells xs.toArray a)).heap.size = w.heap.size + 1 := by simp
  generalize w.alloc (.cells xs.toArray a) = w1 at *
  have h2 := Bk.new w1 b ys
  have b2 := alloc_below w1 (.cells ys.toArray b)
  have s2 : (w1.alloc (.cells ys.toArray b)).heap.size = w1.heap.size + 1 := by simp
  generalize w1.alloc (.cells ys.toArray b) = w2 at *
  have h3 := Bk.new w2 c zs
  have b3 := alloc_below w2 (.cells zs.toArray c)
  have s3 : (w2.alloc (.cells zs.toArray c)).heap.size = w2.heap.size + 1 := by simp
  generalize w2.alloc (.cells zs.toArray c) = w3 at *
  rw [s1] at h2
  rw [s2, s1] at h3
  exact ⟨(h1.below b2 (by omega)).below b3 (by omega), h2.below b3 (by omega), h3, (b1.trans (b2.mono (by omega))).trans (b3.mono (by omega)), by omega⟩

/-- 'copy' into a row, as a step of a region: what the row is then, and that nothing else has turned. -/
theorem row_grown (w : World) (g : Nat) : ∀ cs : Array Value, w.grownBy (w.setRow g cs) (some g) := fun cs =>
  ⟨rfl, rfl, rfl, by simp [World.setRow], fun k _ hne => setRow_other w g k cs (by rintro rfl; exact hne rfl)⟩
theorem step_copy_row {P : Program} {ops : Array Oper} {o : Oper} {a : Act} {w : World} {K : Act → World → Prop} {Q : Exit → Act → World → Prop} {E : Prop} (hgd : o.guard = none) (d s : Operand) (dT sT : TypeId)
    (ho : o.op = .call { callee := .builtin .copy, args := #[d, s], argTypes := #[dT, sT] }) (elem : TypeId) (hu : P.underlying dT = some (.slice elem)) (hsz : (P.info? elem).map (·.size) = some 1)
    (g off dLen dCap : Nat) (ad : Addr) (sLen sCap : Nat) (hd : a.eval d = .slice (some ⟨g, off, none⟩) dLen dCap) (hs : a.eval s = .slice (some ad) sLen sCap)
    (cur : List Value) (t : TypeId) (hg : w.heap[g]? = some (.cells cur.toArray t (0, 0))) (cs : List Value) (hn : cs.length = Nat.min sLen dLen)
    (hsrc : ∀ j v, cs[j]? = some v → w.cell? (ad.add j) = some v) (hfit : off + cs.length ≤ cur.length) (h1 : ∀ v ∈ cs, v.oneCell' = true)
    (h : ∀ w', Hid (w'.heap[g]? = some (.cells (splice cur off cs).toArray t (0, 0))) → Hid (w.grownBy w' (some g)) → K (a.put o.dst (goInt cs.length)) w') :
    if Region.wanted o (yielded ops a.tmps) = true then Oper.wp P o a w K Q else E := by
  have hw : Region.wanted o (yielded ops a.tmps) = true := by simp [Region.wanted, hgd]
  rw [if_pos hw]
  have hrun := run_copy_row (P := P) w dT sT o.type elem g off dLen dCap ad sLen sCap cur.toArray t cs hu hsz hg hn hsrc (by simpa using hfit) h1
  unfold Oper.wp
  simp [execOp, ho, resolve, invoke, builtin, hd, hs, hrun, Result.andThen]
  exact h _ (show _ = _ by simpa [splice] using setRow_heap w g _ _ t _ hg) (row_grown _ _ _)

theorem src8 {W : World} {b : Nat} {k r : Nat} {l s p0 p1 p2 p3 p4 p5 p6 p7 p8 p9 : Int} (h : Bk W b 24 [.int .u8 (k : Int), .int .u8 (r : Int), .int .i64 l, .int .i64 s, .int .i64 p0, .int .i64 p1, .int .i64 p2, .int .i64 p3, .int .i64 p4, .int .i64 p5, .int .i64 p6, .int .i64 p7, .int .i64 p8, .int .i64 p9]) : ∀ j v, (intsV [p0, p1, p2, p3, p4, p5, p6, p7])[j]? = some v → W.drew.cell? (Addr.add ⟨b, 4, none⟩ j) = some v := by
  intro j v hv
  have e : (intsV [p0, p1, p2, p3, p4, p5, p6, p7]) = (([.int .u8 (k : Int), .int .u8 (r : Int), .int .i64 l, .int .i64 s, .int .i64 p0, .int .i64 p1, .int .i64 p2, .int .i64 p3, .int .i64 p4, .int .i64 p5, .int .i64 p6, .int .i64 p7, .int .i64 p8, .int .i64 p9] : List Value).drop 4).take 8 := rfl
  rw [e, List.getElem?_take] at hv
  split at hv
  · rw [List.getElem?_drop] at hv
    rw [Addr.add_lit]
    exact (h.cell (4 + j)).trans hv
  · simp at hv

set_option maxHeartbeats 1600000 in
set_option maxRecDepth 100000 in
theorem pof_ten (k r : Nat) (l s p0 p1 p2 p3 p4 p5 p6 p7 p8 p9 : Int) (w : World) :
    Calls Try.prog 27 #[.agg #[.int .u8 (k : Int), .int .u8 (r : Int), .int .i64 l, .int .i64 s, .int .i64 p0, .int .i64 p1, .int .i64 p2, .int .i64 p3, .int .i64 p4, .int .i64 p5, .int .i64 p6, .int .i64 p7, .int .i64 p8, .int .i64 p9]] w fun e w' => e = .returned (.agg #[.int .i64 p0, .int .i64 p1, .int .i64 p2, .int .i64 p3, .int .i64 p4, .int .i64 p5, .int .i64 p6, .int .i64 p7, .int .i64 p8, .int .i64 p9]) ∧ Below w.heap.size w w' := by
  have H3 := Lib.hid (three w [.int .u8 (k : Int), .int .u8 (r : Int), .int .i64 l, .int .i64 s, .int .i64 p0, .int .i64 p1, .int .i64 p2, .int .i64 p3, .int .i64 p4, .int .i64 p5, .int .i64 p6, .int .i64 p7, .int .i64 p8, .int .i64 p9] [.int .i64 0, .int .i64 0, .int .i64 0, .int .i64 0, .int .i64 0, .int .i64 0, .int .i64 0, .int .i64 0, .int .i64 0, .int .i64 0] [.int .i64 0, .int .i64 0, .int .i64 0, .int .i64 0, .int .i64 0, .int .i64 0, .int .i64 0, .int .i64 0, .int .i64 0, .int .i64 0] 24 51 51)
  go_enter Try.func27, Try.ntmps27
  go_wp2
  obtain ⟨W, hW⟩ : ∃ W, W = ((w.alloc (.cells #[.int .u8 (k : Int), .int .u8 (r : Int), .int .i64 l, .int .i64 s, .int .i64 p0, .int .i64 p1, .int .i64 p2, .int .i64 p3, .int .i64 p4, .int .i64 p5, .int .i64 p6, .int .i64 p7, .int .i64 p8, .int .i64 p9] 24)).alloc (.cells #[.int .i64 0, .int .i64 0, .int .i64 0, .int .i64 0, .int .i64 0, .int .i64 0, .int .i64 0, .int .i64 0, .int .i64 0, .int .i64 0] 51)).alloc (.cells #[.int .i64 0, .int .i64 0, .int .i64 0, .int .i64 0, .int .i64 0, .int .i64 0, .int .i64 0, .int .i64 0, .int .i64 0, .int .i64 0] 51) := ⟨_, rfl⟩
  rw [← hW]
  obtain ⟨hA, hR, hP, hB, hS⟩ := H3.out W hW
  clear hW H3
  have HA := Lib.hid hA
  have HR := Lib.hid hR
  have HP := Lib.hid hP
  have HB := Lib.hid hB
  have HS := Lib.hid hS
  clear hA hR hP hB hS
  have hsrc := Lib.hid (src8 HA.out)
  have hpw : W.drew.heap[w.heap.size + 1 + 1]? = some (.cells [.int .i64 0, .int .i64 0, .int .i64 0, .int .i64 0, .int .i64 0, .int .i64 0, .int .i64 0, .int .i64 0, .int .i64 0, .int .i64 0].toArray 51 (0, 0)) := HP.out
  have hpp := Lib.hid hpw
  have hbb := Lib.hid (Below.refl (w.heap.size + 1 + 1) W.drew)
  have hle : w.heap.size + 1 + 1 ≤ w.heap.size + 1 + 1 := Nat.le_refl _
  clear hpw
  go_region_law (refine step_copy_splice rfl (.tmp 4) (.tmp 6) 33 33 rfl 3 Try.underlying33 size3 (some ⟨w.heap.size + 1 + 1, 0, none⟩) (some ⟨w.heap.size, 4, none⟩) 10 10 8 8 rfl rfl (w.heap.size + 1 + 1) 0 [.int .i64 0, .int .i64 0, .int .i64 0, .int .i64 0, .int .i64 0, .int .i64 0, .int .i64 0, .int .i64 0, .int .i64 0, .int .i64 0] 51 hpp.out (intsV [p0, p1, p2, p3, p4, p5, p6, p7]) rfl (fun _ => ⟨rfl, ⟨w.heap.size, 4, none⟩, rfl, hsrc.out⟩) (show 0 + 8 ≤ 10 by decide) (intsV_one _) (w.heap.size + 1 + 1) W.drew hbb.out hle ?_; intro w4 hg4 hb4)
  have hA4 : Bk w4 w.heap.size 24 [.int .u8 (k : Int), .int .u8 (r : Int), .int .i64 l, .int .i64 s, .int .i64 p0, .int .i64 p1, .int .i64 p2, .int .i64 p3, .int .i64 p4, .int .i64 p5, .int .i64 p6, .int .i64 p7, .int .i64 p8, .int .i64 p9] := (show Bk W.drew w.heap.size 24 [.int .u8 (k : Int), .int .u8 (r : Int), .int .i64 l, .int .i64 s, .int .i64 p0, .int .i64 p1, .int .i64 p2, .int .i64 p3, .int .i64 p4, .int .i64 p5, .int .i64 p6, .int .i64 p7, .int .i64 p8, .int .i64 p9] from HA.out).below hb4 (by omega)
  have hR4 : Bk w4 (w.heap.size + 1) 51 [.int .i64 0, .int .i64 0, .int .i64 0, .int .i64 0, .int .i64 0, .int .i64 0, .int .i64 0, .int .i64 0, .int .i64 0, .int .i64 0] := (show Bk W.drew (w.heap.size + 1) 51 [.int .i64 0, .int .i64 0, .int .i64 0, .int .i64 0, .int .i64 0, .int .i64 0, .int .i64 0, .int .i64 0, .int .i64 0, .int .i64 0] from HR.out).below hb4 (by omega)
  have hP4 : Bk w4 (w.heap.size + 1 + 1) 51 [.int .i64 p0, .int .i64 p1, .int .i64 p2, .int .i64 p3, .int .i64 p4, .int .i64 p5, .int .i64 p6, .int .i64 p7, .int .i64 0, .int .i64 0] := hg4.out
  have hB4 : Below w.heap.size w w4 := (below_drew HB.out).trans (hb4.mono (by omega))
  have hs4 : w.heap.size + 3 ≤ w4.heap.size := by
    have h1 := hb4.size
    have h2 := HS.out
    have h3 : W.drew.heap.size = W.heap.size := rfl
    omega
  clear hg4 hb4 hsrc hpp hbb hle HA HR HP HB HS
  obtain ⟨a0, a1, a2, a3, a4, a5, a6, a7, a8, a9, a10, a11, a12, a13⟩ := ino_cells hA4
  obtain ⟨r0, r1, r2, r3, r4, r5, r6, r7, r8, r9⟩ := ten_cells hR4
  obtain ⟨g0, g1, g2, g3, g4, g5, g6, g7, g8, g9⟩ := ten_frozen hR4
  obtain ⟨c0, c1, c2, c3, c4, c5, c6, c7, c8, c9⟩ := ten_cells hP4
  obtain ⟨f0, f1, f2, f3, f4, f5, f6, f7, f8, f9⟩ := ten_frozen hP4
  have HB4 := Lib.hid hB4
  have HS4 := Lib.hid hs4
  clear hA4 hR4 hP4 hB4 hs4
  go_wp2
  refine bodyPost_ret (v := .agg #[.int .i64 p0, .int .i64 p1, .int .i64 p2, .int .i64 p3, .int .i64 p4, .int .i64 p5, .int .i64 p6, .int .i64 p7, .int .i64 p8, .int .i64 p9]) (by simp [results, Try.results27, go_sem, *]) rfl ⟨rfl, ?_⟩
  have hb := HB4.out
  repeat (first | with_reducible exact hb | with_reducible refine below_drewN ?_ _ | with_reducible refine Below.setCell ?_ ?_ _ | with_reducible refine Below.alloc ?_ ?_ _)
  all_goals (simp <;> omega)

theorem srcq {W : World} {b : Nat} {q0 q1 q2 q3 q4 q5 q6 q7 q8 q9 : Int} (h : Bk W b 51 [.int .i64 q0, .int .i64 q1, .int .i64 q2, .int .i64 q3, .int .i64 q4, .int .i64 q5, .int .i64 q6, .int .i64 q7, .int .i64 q8, .int .i64 q9]) : ∀ j v, (intsV [q0, q1, q2, q3, q4, q5, q6, q7])[j]? = some v → W.drew.cell? (Addr.add ⟨b, 0, none⟩ j) = some v := by
  intro j v hv
  have e : (intsV [q0, q1, q2, q3, q4, q5, q6, q7]) = ([.int .i64 q0, .int .i64 q1, .int .i64 q2, .int .i64 q3, .int .i64 q4, .int .i64 q5, .int .i64 q6, .int .i64 q7, .int .i64 q8, .int .i64 q9] : List Value).take 8 := rfl
  rw [e, List.getElem?_take] at hv
  split at hv
  · rw [Addr.add_lit, Nat.zero_add]
    exact (h.cell j).trans hv
  · simp at hv

set_option maxHeartbeats 1600000 in
set_option maxRecDepth 100000 in
theorem wp_ten (k r : Nat) (l s p0 p1 p2 p3 p4 p5 p6 p7 p8 p9 q0 q1 q2 q3 q4 q5 q6 q7 q8 q9 : Int) (w : World) :
    Calls Try.prog 36 #[.agg #[.int .u8 (k : Int), .int .u8 (r : Int), .int .i64 l, .int .i64 s, .int .i64 p0, .int .i64 p1, .int .i64 p2, .int .i64 p3, .int .i64 p4, .int .i64 p5, .int .i64 p6, .int .i64 p7, .int .i64 p8, .int .i64 p9], .agg #[.int .i64 q0, .int .i64 q1, .int .i64 q2, .int .i64 q3, .int .i64 q4, .int .i64 q5, .int .i64 q6, .int .i64 q7, .int .i64 q8, .int .i64 q9]] w fun e w' => e = .returned (.agg #[.int .u8 (k : Int), .int .u8 (r : Int), .int .i64 l, .int .i64 s, .int .i64 q0, .int .i64 q1, .int .i64 q2, .int .i64 q3, .int .i64 q4, .int .i64 q5, .int .i64 q6, .int .i64 q7, .int .i64 q8, .int .i64 q9]) ∧ Below w.heap.size w w' := by
  have H3 := Lib.hid (three w [.int .u8 (k : Int), .int .u8 (r : Int), .int .i64 l, .int .i64 s, .int .i64 p0, .int .i64 p1, .int .i64 p2, .int .i64 p3, .int .i64 p4, .int .i64 p5, .int .i64 p6, .int .i64 p7, .int .i64 p8, .int .i64 p9] [.int .i64 q0, .int .i64 q1, .int .i64 q2, .int .i64 q3, .int .i64 q4, .int .i64 q5, .int .i64 q6, .int .i64 q7, .int .i64 q8, .int .i64 q9] [.int .u8 0, .int .u8 0, .int .i64 0, .int .i64 0, .int .i64 0, .int .i64 0, .int .i64 0, .int .i64 0, .int .i64 0, .int .i64 0, .int .i64 0, .int .i64 0, .int .i64 0, .int .i64 0] 24 51 24)
  go_enter Try.func36, Try.ntmps36
  go_wp2
  obtain ⟨W, hW⟩ : ∃ W, W = ((w.alloc (.cells #[.int .u8 (k : Int), .int .u8 (r : Int), .int .i64 l, .int .i64 s, .int .i64 p0, .int .i64 p1, .int .i64 p2, .int .i64 p3, .int .i64 p4, .int .i64 p5, .int .i64 p6, .int .i64 p7, .int .i64 p8, .int .i64 p9] 24)).alloc (.cells #[.int .i64 q0, .int .i64 q1, .int .i64 q2, .int .i64 q3, .int .i64 q4, .int .i64 q5, .int .i64 q6, .int .i64 q7, .int .i64 q8, .int .i64 q9] 51)).alloc (.cells #[.int .u8 0, .int .u8 0, .int .i64 0, .int .i64 0, .int .i64 0, .int .i64 0, .int .i64 0, .int .i64 0, .int .i64 0, .int .i64 0, .int .i64 0, .int .i64 0, .int .i64 0, .int .i64 0] 24) := ⟨_, rfl⟩
  rw [← hW]
  obtain ⟨hA, hR, hP, hB, hS⟩ := H3.out W hW
  clear hW H3
  have HA := Lib.hid hA
  have HR := Lib.hid hR
  have HP := Lib.hid hP
  have HB := Lib.hid hB
  have HS := Lib.hid hS
  clear hA hR hP hB hS
  have hsrc := Lib.hid (srcq HR.out)
  have hpw : W.drew.heap[w.heap.size]? = some (.cells [.int .u8 (k : Int), .int .u8 (r : Int), .int .i64 l, .int .i64 s, .int .i64 p0, .int .i64 p1, .int .i64 p2, .int .i64 p3, .int .i64 p4, .int .i64 p5, .int .i64 p6, .int .i64 p7, .int .i64 p8, .int .i64 p9].toArray 24 (0, 0)) := HA.out
  have hpp := Lib.hid hpw
  have hcc := Lib.hid (row_grown W.drew w.heap.size)
  have hbb := Lib.hid (below_drew HB.out)
  have hle : w.heap.size ≤ w.heap.size := Nat.le_refl _
  clear hpw
  go_region_law (refine step_copy_row rfl (.tmp 6) (.tmp 7) 33 33 rfl 3 Try.underlying33 size3 (w.heap.size) 4 8 8 ⟨w.heap.size + 1, 0, none⟩ 10 10 rfl rfl [.int .u8 (k : Int), .int .u8 (r : Int), .int .i64 l, .int .i64 s, .int .i64 p0, .int .i64 p1, .int .i64 p2, .int .i64 p3, .int .i64 p4, .int .i64 p5, .int .i64 p6, .int .i64 p7, .int .i64 p8, .int .i64 p9] 24 hpp.out (intsV [q0, q1, q2, q3, q4, q5, q6, q7]) rfl hsrc.out (show 4 + 8 ≤ 14 by decide) (intsV_one _) ?_; intro w4 hg4 hb4)
  have hA4 : Bk w4 w.heap.size 24 [.int .u8 (k : Int), .int .u8 (r : Int), .int .i64 l, .int .i64 s, .int .i64 q0, .int .i64 q1, .int .i64 q2, .int .i64 q3, .int .i64 q4, .int .i64 q5, .int .i64 q6, .int .i64 q7, .int .i64 p8, .int .i64 p9] := hg4.out
  have hR4 : Bk w4 (w.heap.size + 1) 51 [.int .i64 q0, .int .i64 q1, .int .i64 q2, .int .i64 q3, .int .i64 q4, .int .i64 q5, .int .i64 q6, .int .i64 q7, .int .i64 q8, .int .i64 q9] := (show Bk W.drew (w.heap.size + 1) 51 [.int .i64 q0, .int .i64 q1, .int .i64 q2, .int .i64 q3, .int .i64 q4, .int .i64 q5, .int .i64 q6, .int .i64 q7, .int .i64 q8, .int .i64 q9] from HR.out).grown hb4.out (by simp)
  have hP4 : Bk w4 (w.heap.size + 1 + 1) 24 [.int .u8 0, .int .u8 0, .int .i64 0, .int .i64 0, .int .i64 0, .int .i64 0, .int .i64 0, .int .i64 0, .int .i64 0, .int .i64 0, .int .i64 0, .int .i64 0, .int .i64 0, .int .i64 0] := (show Bk W.drew (w.heap.size + 1 + 1) 24 [.int .u8 0, .int .u8 0, .int .i64 0, .int .i64 0, .int .i64 0, .int .i64 0, .int .i64 0, .int .i64 0, .int .i64 0, .int .i64 0, .int .i64 0, .int .i64 0, .int .i64 0, .int .i64 0] from HP.out).grown hb4.out (by simp; omega)
  have hB4 : Below w.heap.size w w4 := (below_drew HB.out).grown hb4.out (by have := HS.out; show w.heap.size ≤ W.heap.size; omega) (by rintro q hq; injection hq with hq; omega)
  have hs4 : w.heap.size + 3 ≤ w4.heap.size := by
    have h1 := hb4.out.size
    have h2 := HS.out
    have h3 : W.drew.heap.size = W.heap.size := rfl
    omega
  clear hg4 hb4 hsrc hpp hbb hle HA HR HP HB HS hcc
  obtain ⟨a0, a1, a2, a3, a4, a5, a6, a7, a8, a9, a10, a11, a12, a13⟩ := ino_cells hA4
  obtain ⟨b0, b1, b2, b3, b4, b5, b6, b7, b8, b9, b10, b11, b12, b13⟩ := ino_frozen hA4
  obtain ⟨r0, r1, r2, r3, r4, r5, r6, r7, r8, r9⟩ := ten_cells hR4
  obtain ⟨c0, c1, c2, c3, c4, c5, c6, c7, c8, c9, c10, c11, c12, c13⟩ := ino_cells hP4
  obtain ⟨f0, f1, f2, f3, f4, f5, f6, f7, f8, f9, f10, f11, f12, f13⟩ := ino_frozen hP4
  have HB4 := Lib.hid hB4
  have HS4 := Lib.hid hs4
  clear hA4 hR4 hP4 hB4 hs4
  go_wp2
  refine bodyPost_ret (v := .agg #[.int .u8 (k : Int), .int .u8 (r : Int), .int .i64 l, .int .i64 s, .int .i64 q0, .int .i64 q1, .int .i64 q2, .int .i64 q3, .int .i64 q4, .int .i64 q5, .int .i64 q6, .int .i64 q7, .int .i64 q8, .int .i64 q9]) (by simp [results, Try.results36, go_sem, *]) rfl ⟨rfl, ?_⟩
  have hb := HB4.out
  repeat (first | with_reducible exact hb | with_reducible refine below_drewN ?_ _ | with_reducible refine Below.setCell ?_ ?_ _ | with_reducible refine Below.alloc ?_ ?_ _)
  all_goals (simp <;> omega)
end Go.Proofs.Ytahpdnfnaimbnaa.Inode
