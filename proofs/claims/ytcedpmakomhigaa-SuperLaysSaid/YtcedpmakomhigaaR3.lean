/-
  The superblock of a geometry: what the program's and the document's own answers are.
-/
import Derived.Test.YtcedpmakomhigaaR2
import Derived.Test.YtcedpmakomhigaaW3
import Derived.Lib.SlBytesConst
namespace Go.Proofs.Ytcedpmakomhigaa
open Go.RowKit

/-- The mark, as its bytes lie in memory. -/
def markL : List UInt8 := [109, 111, 97, 116]
/-- The superblock's head: the mark, and the four numbers. -/
def headL (J I G P : Nat) : List UInt8 := markL ++ layl 2 [J, I, G, P]
/-- The superblock. -/
def superL (J I G P : Nat) : List UInt8 := sealed (padl (headL J I G P) 60)
theorem length_headL (J I G P : Nat) : (headL J I G P).length = 12 := by simp [headL, markL, length_layl]
theorem length_super (J I G P : Nat) : (superL J I G P).length = 64 := by
  unfold superL
  rw [length_sealed, length_padl _ _ (by rw [length_headL]; omega)]

/-- A geometry as it lies, once it was looked at. -/
theorem boxed_cells {w w1 : World} {j i g p : Int} (h : Boxed (w.alloc (.cells #[.int .i64 j, .int .i64 i, .int .i64 g, .int .i64 p] 23)) j i g p w1) :
    w1.cell? ⟨w.heap.size, 0, none⟩ = some (.int .i64 j) ∧ w1.cell? ⟨w.heap.size, 1, none⟩ = some (.int .i64 i) ∧ w1.cell? ⟨w.heap.size, 2, none⟩ = some (.int .i64 g) ∧ w1.cell? ⟨w.heap.size, 3, none⟩ = some (.int .i64 p) ∧ Below w.heap.size w w1 ∧ w.heap.size < w1.heap.size := by
  have hb := h.below
  have hk : Bk (w.alloc (.cells #[.int .i64 j, .int .i64 i, .int .i64 g, .int .i64 p] 23)) w.heap.size 23 [.int .i64 j, .int .i64 i, .int .i64 g, .int .i64 p] := Bk.new w 23 _
  have hk1 := hk.below hb (by simp)
  exact ⟨hk1.cell 0, hk1.cell 1, hk1.cell 2, hk1.cell 3, ((Below.refl _ w).alloc (Nat.le_refl _) _).trans (hb.mono (by simp)), by have := hb.size; simp at this; omega⟩

/-- '[]byte("moat")': a new row. -/
theorem mark_made (w : World) : ∃ wm, (convert 35 35 (.slice (some ⟨w.heap.size, 0, none⟩) 4 4)).run Try.prog (w.alloc (.cells #[.int .u8 109, .int .u8 111, .int .u8 97, .int .u8 116] 5)) = .ok (.slice (some ⟨w.heap.size, 0, none⟩) 4 4) wm ∧
    Rd wm wm.heap.size (some ⟨w.heap.size, 0, none⟩) (bytesV markL) ∧ Below w.heap.size w wm ∧ w.heap.size < wm.heap.size := by
  refine ⟨_, Lib.run_convert_bytes_const (P := Try.prog) w 35 5 _ 4 4 Try.underlying35 Try.underlying5, .inr ⟨w.heap.size, 0, rfl, by simp, fun j u hu => ?_⟩, (Below.refl _ w).alloc (Nat.le_refl _) _, by simp⟩
  have h := heap_alloc_new w (.cells #[.int .u8 109, .int .u8 111, .int .u8 97, .int .u8 116] 5 (4, 5))
  refine (cell_of_row _ _ _ _ _ _ h).trans ?_
  rw [Nat.zero_add, ← Array.getElem?_toList]
  exact hu

set_option maxHeartbeats 1600000 in
set_option maxRecDepth 100000 in
theorem slay_yes {J I G P : Nat} (h : Valid J I G P) (w : World) : Calls Try.prog 18 #[geoV J I G P] w fun e w' => ∃ v, e = .returned (.tuple #[v, .int .i64 0]) ∧ Made w (superL J I G P) v w' := by
  have H := Lib.hid h
  have p2 := h.p2
  obtain ⟨j1, j2, i1, i2, i3, g1, g2, p1, gp⟩ := h
  have Hf : Hid (∀ x ∈ [J, I, G, P], fitB x 2 = true) := by
    intro x hx
    simp only [List.mem_cons, List.not_mem_nil, or_false] at hx
    simp only [fitB, decide_eq_true_eq]
    rcases hx with rfl | rfl | rfl | rfl <;> omega
  unfold geoV
  go_enter Try.func18, Try.ntmps18
  go_wp2_with (go_at_call 14; refine (right_yes H.out _).mono ?_; rintro e w1 ⟨rfl, hbx⟩; obtain ⟨k0, k1, k2, k3, hb0, hs0⟩ := boxed_cells hbx; have HB0 := Lib.hid hb0; clear hbx hb0)
  have hrd : Rd (w1.alloc (.cells #[.int .u64 (J : Int), .int .u64 (I : Int), .int .u64 (G : Int), .int .u64 (P : Int)] 44)) (w1.alloc (.cells #[.int .u64 (J : Int), .int .u64 (I : Int), .int .u64 (G : Int), .int .u64 (P : Int)] 44)).heap.size (some ⟨w1.heap.size, 0, none⟩) (numsV [J, I, G, P]) := (Bk.new w1 44 (numsV [J, I, G, P])).rd 4 0
  refine (lay_ok [J, I, G, P] _ 4 4 2 _ rfl hrd (by omega) (by omega) ?_ Hf.out (by omega)).mono ?_
  · intro x hx
    simp only [List.mem_cons, List.not_mem_nil, or_false] at hx
    rcases hx with rfl | rfl | rfl | rfl <;> omega
  rintro e w2 ⟨v, rfl, hown, hb2⟩
  have hb1 : Below w.heap.size w w2 := (HB0.out.alloc HB0.out.size _).trans (hb2.mono (by simp; omega))
  clear hb2
  obtain ⟨L, hL⟩ : ∃ L, L = layl 2 [J, I, G, P] := ⟨_, rfl⟩
  have hLl : L.length = 8 := by rw [hL, length_layl]; rfl
  rw [← hL, hLl] at hown
  have HL := Lib.hid hL
  have HLl := Lib.hid hLl
  obtain ⟨_, A2, c2, rfl, hc2, _, hr2⟩ := own_rd hown
  have HR2 := Lib.hid hr2
  have HB1 := Lib.hid hb1
  clear hL hLl hown hr2 hb1
  obtain ⟨wm, kc, hrm, hbm, hsm⟩ := mark_made w2
  have hbm1 := HB1.out.trans (hbm.mono HB1.out.size)
  have hr2m := (HR2.out.below hbm).more hbm.size
  have Hpart : Hid (∀ u : World, Below wm.heap.size wm u → ∀ p ∈ [((.slice (some ⟨w2.heap.size, 0, none⟩) 4 4 : Value), markL), (.slice A2 8 c2, L)], Part u p) := by
    intro u hu p hp
    have hs := hu.size
    simp only [List.mem_cons, List.not_mem_nil, or_false] at hp
    rcases hp with rfl | rfl
    · exact ⟨_, 4, 4, rfl, rfl, Nat.le_refl _, (hrm.below hu).more hs⟩
    · exact ⟨A2, 8, c2, rfl, HLl.out, hc2, (hr2m.below hu).more hs⟩
  have HBm := Lib.hid hbm1
  clear hbm hrm hr2m hbm1
  have hal : Below wm.heap.size wm (wm.alloc (.cells #[.slice (some ⟨w2.heap.size, 0, none⟩) 4 4, .slice A2 8 c2] 35)) := (Below.refl _ wm).alloc (Nat.le_refl _) _
  have htot : total [((.slice (some ⟨w2.heap.size, 0, none⟩) 4 4 : Value), markL), (.slice A2 8 c2, L)] = headL J I G P := by simp [total, headL, HL.out]
  have Htot := Lib.hid htot
  have Hal := Lib.hid hal
  clear htot hal
  go_wp2_with fail
  clear kc
  refine (concat_any [((.slice (some ⟨w2.heap.size, 0, none⟩) 4 4 : Value), markL), (.slice A2 8 c2, L)] _ 2 2 _ rfl ?_ (Hpart.out _ Hal.out) ?_ (by omega)).mono ?_
  · exact .inr ⟨wm.heap.size, 0, rfl, by simp, fun j u hu => by
      match j, hu with
      | 0, hu => rw [World.cell?_alloc_at _ _ _ _ rfl]; simpa using hu
      | 1, hu => rw [World.cell?_alloc_at _ _ _ _ rfl]; simpa using hu
      | j + 2, hu => simp at hu⟩
  · rw [Htot.out, length_headL]; omega
  rintro e w3 ⟨v, rfl, hown3, hb3⟩
  rw [Htot.out, length_headL] at hown3
  have hb3w : Below w.heap.size w w3 := (HBm.out.trans (Hal.out.mono HBm.out.size)).trans (hb3.mono (by have := HBm.out.size; simp; omega))
  obtain ⟨_, A3, c3, rfl, hc3, _, hr3⟩ := own_rd hown3
  have HR3 := Lib.hid hr3
  have HB3 := Lib.hid hb3w
  have Hl3 := Lib.hid (length_headL J I G P)
  clear hown3 hb3 hb3w hr3
  go_wp2_with (first
    | (go_at_call 24; refine (fill_ok (headL J I G P) A3 12 c3 60 _ Hl3.out HR3.out (by omega) (by omega)).mono ?_; rintro e w4 ⟨v, rfl, hown4, hb4⟩; have Hl4 := Lib.hid (show (padl (headL J I G P) 60).length = 60 from length_padl _ _ (by rw [length_headL]; omega)); rw [Hl4.out] at hown4; obtain ⟨hl4, A4, c4, rfl, hc4, _, hr4⟩ := own_rd hown4; have HR4 := Lib.hid hr4; have HB4 := Lib.hid (HB3.out.trans (hb4.mono HB3.out.size)); clear hown4 hb4 hr4 hl4)
    | (go_at_call 26; refine (seal_any (padl (headL J I G P) 60) A4 60 c4 _ Hl4.out HR4.out hc4 (by omega)).mono ?_; rintro e w5 ⟨v, rfl, hm5⟩; have HM5 := Lib.hid hm5; clear hm5))
  go_ret2
  exact ⟨_, rfl, own_mono HM5.out.1 HB4.out.size, HB4.out.trans (HM5.out.2.mono HB4.out.size)⟩

theorem slay_no {j i g p : Int} (h : ¬ Valid j i g p) (w : World) : Calls Try.prog 18 #[geoV j i g p] w fun e w' => e = .returned (.tuple #[.slice none 0 0, .int .i64 1]) ∧ Below w.heap.size w w' := by
  have H := Lib.hid h
  clear h
  unfold geoV
  go_enter Try.func18, Try.ntmps18
  go_wp2_with (go_at_call 14; refine (right_no H.out _).mono ?_; rintro e w' ⟨rfl, n, rfl⟩)
  go_ret2
  refine ⟨rfl, ?_⟩
  repeat (first | with_reducible exact Below.refl _ _ | with_reducible refine below_drewN ?_ _ | with_reducible refine Below.setCell ?_ ?_ _ | with_reducible refine Below.alloc ?_ ?_ _)
  all_goals (simp <;> omega)
end Go.Proofs.Ytcedpmakomhigaa
