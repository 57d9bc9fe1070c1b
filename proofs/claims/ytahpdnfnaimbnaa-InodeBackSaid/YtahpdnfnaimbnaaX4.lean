/-
  Whether an inode is valid: the document's Right.
-/
import Derived.Test.YtahpdnfnaimbnaaX3
namespace Go.Proofs.Ytahpdnfnaimbnaa.Inode
open Go.RowKit

theorem ten_all (p0 p1 p2 p3 p4 p5 p6 p7 p8 p9 : Int) : [p0, p1, p2, p3, p4, p5, p6, p7, p8, p9].all ptrB = ([p0, p1, p2, p3, p4, p5, p6, p7].all ptrB && (ptrB p8 && ptrB p9)) := by simp [Bool.and_assoc]
theorem dir_cell {W : World} {g : Nat} {k r l s : Value} {p0 p1 p2 p3 p4 p5 p6 p7 p8 p9 : Int} (h : Bk W g 24 [k, r, l, s, .int .i64 p0, .int .i64 p1, .int .i64 p2, .int .i64 p3, .int .i64 p4, .int .i64 p5, .int .i64 p6, .int .i64 p7, .int .i64 p8, .int .i64 p9]) : ∀ (j : Nat) (x : Int), [p0, p1, p2, p3, p4, p5, p6, p7][j]? = some x → W.cell? ⟨g, 4 + j, none⟩ = some (.int .i64 x) := by
  intro j x hx
  have hj : j < 8 := by
    have := (List.getElem?_eq_some_iff.1 hx).1
    simpa using this
  have e : (intsV [p0, p1, p2, p3, p4, p5, p6, p7])[j]? = some (.int .i64 x) := by simp only [intsV, List.getElem?_map, hx, Option.map_some]
  have e2 : intsV [p0, p1, p2, p3, p4, p5, p6, p7] = (([k, r, l, s, .int .i64 p0, .int .i64 p1, .int .i64 p2, .int .i64 p3, .int .i64 p4, .int .i64 p5, .int .i64 p6, .int .i64 p7, .int .i64 p8, .int .i64 p9] : List Value).drop 4).take 8 := rfl
  rw [e2, List.getElem?_take, if_pos hj, List.getElem?_drop] at e
  exact (h.cell (4 + j)).trans e

set_option maxHeartbeats 1600000 in
set_option maxRecDepth 100000 in
theorem rright_in0 (r : Nat) (l s p0 p1 p2 p3 p4 p5 p6 p7 p8 p9 : Int) (w : World) (hr : r < 16) (l0 : 0 ≤ l) (l1 : l ≤ 65535) (s0 : 0 ≤ s) (s1 : s ≤ 3840) (hv : rightB (⟨0, r, l, s, [p0, p1, p2, p3, p4, p5, p6, p7, p8, p9]⟩ : Ino) = [p0, p1, p2, p3, p4, p5, p6, p7, p8, p9].all ptrB) (he : ∀ W, (binOp .neq 24 (.agg #[.int .u8 0, .int .u8 (r : Int), .int .i64 l, .int .i64 s, .int .i64 p0, .int .i64 p1, .int .i64 p2, .int .i64 p3, .int .i64 p4, .int .i64 p5, .int .i64 p6, .int .i64 p7, .int .i64 p8, .int .i64 p9]) (.agg #[.int .u8 0, .int .u8 0, .int .i64 0, .int .i64 0, .int .i64 0, .int .i64 0, .int .i64 0, .int .i64 0, .int .i64 0, .int .i64 0, .int .i64 0, .int .i64 0, .int .i64 0, .int .i64 0])).run Try.prog W = .ok (.bool false) W) :
    Calls Try.prog 14 #[.agg #[.int .u8 0, .int .u8 (r : Int), .int .i64 l, .int .i64 s, .int .i64 p0, .int .i64 p1, .int .i64 p2, .int .i64 p3, .int .i64 p4, .int .i64 p5, .int .i64 p6, .int .i64 p7, .int .i64 p8, .int .i64 p9]] w fun e w' => e = .returned (.bool (rightB (⟨0, r, l, s, [p0, p1, p2, p3, p4, p5, p6, p7, p8, p9]⟩ : Ino))) ∧ Below w.heap.size w w' := by
  have hbk : Bk (w.alloc (.cells #[.int .u8 0, .int .u8 (r : Int), .int .i64 l, .int .i64 s, .int .i64 p0, .int .i64 p1, .int .i64 p2, .int .i64 p3, .int .i64 p4, .int .i64 p5, .int .i64 p6, .int .i64 p7, .int .i64 p8, .int .i64 p9] 24)) w.heap.size 24 [.int .u8 0, .int .u8 (r : Int), .int .i64 l, .int .i64 s, .int .i64 p0, .int .i64 p1, .int .i64 p2, .int .i64 p3, .int .i64 p4, .int .i64 p5, .int .i64 p6, .int .i64 p7, .int .i64 p8, .int .i64 p9] := Bk.new w 24 _
  have HD := Lib.hid (dir_cell hbk)
  have h12 := Lib.hid (hbk.cell 12)
  have h13 := Lib.hid (hbk.cell 13)
  have HB := Lib.hid (alloc_below w (.cells #[.int .u8 0, .int .u8 (r : Int), .int .i64 l, .int .i64 s, .int .i64 p0, .int .i64 p1, .int .i64 p2, .int .i64 p3, .int .i64 p4, .int .i64 p5, .int .i64 p6, .int .i64 p7, .int .i64 p8, .int .i64 p9] 24))
  have HS := Lib.hid hbk.lt
  rw [ten_all] at hv
  have HV := Lib.hid hv
  have q0 : decide ((r : Int) ≥ 16) = false := decide_eq_false (by omega)
  have q1 : decide (l < 0) = false := decide_eq_false (by omega)
  have q2 : decide (l > 65535) = false := decide_eq_false (by omega)
  have q3 : decide (s < 0) = false := decide_eq_false (by omega)
  have q4 : decide (s > 3840) = false := decide_eq_false (by omega)
  have q5 : r < 16 := hr
  have hg := guard_at24
  clear hbk hv
  generalize rightB (⟨0, r, l, s, [p0, p1, p2, p3, p4, p5, p6, p7, p8, p9]⟩ : Ino) = b at HV
  go_enter Try.func14, Try.ntmps14
  go_wp2
  generalize w.alloc (.cells #[.int .u8 0, .int .u8 (r : Int), .int .i64 l, .int .i64 s, .int .i64 p0, .int .i64 p1, .int .i64 p2, .int .i64 p3, .int .i64 p4, .int .i64 p5, .int .i64 p6, .int .i64 p7, .int .i64 p8, .int .i64 p9] 24) = W at *
  clear q0 q1 q2 q3 q4 he hg
  go_loop [3] (fun i => ∃ j : Nat, j ≤ 8 ∧ i = .int .i64 (j : Int) ∧ Hid (([p0, p1, p2, p3, p4, p5, p6, p7].take j).all ptrB = true)) (fun i => 8 - (intOf i).toNat)
  case atStart => exact ⟨0, Nat.zero_le _, rfl, Lib.hid rfl⟩
  case round =>
    obtain ⟨j, hj, rfl, hall⟩ := hrel
    by_cases hlt : j < 8
    · obtain ⟨x, hx⟩ : ∃ x, [p0, p1, p2, p3, p4, p5, p6, p7][j]? = some x := ⟨_, List.getElem?_eq_getElem (by simpa using hlt)⟩
      have c0 := HD.out j x hx
      have Hx := Lib.hid hx
      have hs := HS.out
      have hj0 : (0 : Int) ≤ (j : Int) := Int.natCast_nonneg _
      have hj8 : (j : Int) < 8 := by omega
      clear hx
      cases hp : ptrB x
      · have Hp := Lib.hid (all_bad Hx.out hp)
        have Hq := Lib.hid hp
        clear hp
        go_wp2_with (go_at_call 34; (with_reducible refine (ptr_any x _).mono ?_); rintro e w' ⟨he, hw'⟩; obtain rfl := he; obtain rfl := hw'; rw [Hq.out])
        go_ret
        exact ⟨by rw [HV.out, Hp.out]; rfl, HB.out⟩
      · have Hp := Lib.hid (all_step hall.out Hx.out hp)
        have Hq := Lib.hid hp
        clear hp
        go_wp2_with (go_at_call 34; (with_reducible refine (ptr_any x _).mono ?_); rintro e w' ⟨he, hw'⟩; obtain rfl := he; obtain rfl := hw'; rw [Hq.out])
        go_round
        case rel => exact ⟨j + 1, by omega, by go_num, Hp⟩
        case measure => simp [intOf]; omega
    · obtain rfl : j = 8 := by omega
      have e8 : [p0, p1, p2, p3, p4, p5, p6, p7].all ptrB = true := hall.out
      have c12 : W.cell? ⟨w.heap.size, 12, none⟩ = some (.int .i64 p8) := h12.out
      have c13 : W.cell? ⟨w.heap.size, 13, none⟩ = some (.int .i64 p9) := h13.out
      have HV2 := Lib.hid (show b = (ptrB p8 && ptrB p9) by rw [HV.out, e8]; rfl)
      have hs := HS.out
      clear e8
      cases h8 : ptrB p8
      · have H8 := Lib.hid h8
        clear h8
        go_wp2_with (go_at_call 34; (with_reducible refine (ptr_any p8 _).mono ?_); rintro e w' ⟨he, hw'⟩; obtain rfl := he; obtain rfl := hw'; rw [H8.out])
        go_ret
        exact ⟨by rw [HV2.out, H8.out]; rfl, HB.out⟩
      · have H8 := Lib.hid h8
        clear h8
        go_wp2_with (first | (go_at_call 34; (with_reducible refine (ptr_any p8 _).mono ?_); rintro e w' ⟨he, hw'⟩; obtain rfl := he; obtain rfl := hw'; rw [H8.out]) | (go_at_call 34; (with_reducible refine (ptr_any p9 _).mono ?_); rintro e w' ⟨he, hw'⟩; obtain rfl := he; obtain rfl := hw'))
        go_ret
        exact ⟨by rw [HV2.out, H8.out]; rfl, HB.out⟩

set_option maxHeartbeats 1600000 in
set_option maxRecDepth 100000 in
theorem rright_in1 (r : Nat) (l s p0 p1 p2 p3 p4 p5 p6 p7 p8 p9 : Int) (w : World) (hr : r < 16) (l0 : 0 ≤ l) (l1 : l ≤ 65535) (s0 : 0 ≤ s) (s1 : s ≤ 3840) (hv : rightB (⟨1, r, l, s, [p0, p1, p2, p3, p4, p5, p6, p7, p8, p9]⟩ : Ino) = [p0, p1, p2, p3, p4, p5, p6, p7, p8, p9].all ptrB) :
    Calls Try.prog 14 #[.agg #[.int .u8 1, .int .u8 (r : Int), .int .i64 l, .int .i64 s, .int .i64 p0, .int .i64 p1, .int .i64 p2, .int .i64 p3, .int .i64 p4, .int .i64 p5, .int .i64 p6, .int .i64 p7, .int .i64 p8, .int .i64 p9]] w fun e w' => e = .returned (.bool (rightB (⟨1, r, l, s, [p0, p1, p2, p3, p4, p5, p6, p7, p8, p9]⟩ : Ino))) ∧ Below w.heap.size w w' := by
  have hbk : Bk (w.alloc (.cells #[.int .u8 1, .int .u8 (r : Int), .int .i64 l, .int .i64 s, .int .i64 p0, .int .i64 p1, .int .i64 p2, .int .i64 p3, .int .i64 p4, .int .i64 p5, .int .i64 p6, .int .i64 p7, .int .i64 p8, .int .i64 p9] 24)) w.heap.size 24 [.int .u8 1, .int .u8 (r : Int), .int .i64 l, .int .i64 s, .int .i64 p0, .int .i64 p1, .int .i64 p2, .int .i64 p3, .int .i64 p4, .int .i64 p5, .int .i64 p6, .int .i64 p7, .int .i64 p8, .int .i64 p9] := Bk.new w 24 _
  have HD := Lib.hid (dir_cell hbk)
  have h12 := Lib.hid (hbk.cell 12)
  have h13 := Lib.hid (hbk.cell 13)
  have HB := Lib.hid (alloc_below w (.cells #[.int .u8 1, .int .u8 (r : Int), .int .i64 l, .int .i64 s, .int .i64 p0, .int .i64 p1, .int .i64 p2, .int .i64 p3, .int .i64 p4, .int .i64 p5, .int .i64 p6, .int .i64 p7, .int .i64 p8, .int .i64 p9] 24))
  have HS := Lib.hid hbk.lt
  rw [ten_all] at hv
  have HV := Lib.hid hv
  have q0 : decide ((r : Int) ≥ 16) = false := decide_eq_false (by omega)
  have q1 : decide (l < 0) = false := decide_eq_false (by omega)
  have q2 : decide (l > 65535) = false := decide_eq_false (by omega)
  have q3 : decide (s < 0) = false := decide_eq_false (by omega)
  have q4 : decide (s > 3840) = false := decide_eq_false (by omega)
  have q5 : r < 16 := hr

  clear hbk hv
  generalize rightB (⟨1, r, l, s, [p0, p1, p2, p3, p4, p5, p6, p7, p8, p9]⟩ : Ino) = b at HV
  go_enter Try.func14, Try.ntmps14
  go_wp2
  generalize w.alloc (.cells #[.int .u8 1, .int .u8 (r : Int), .int .i64 l, .int .i64 s, .int .i64 p0, .int .i64 p1, .int .i64 p2, .int .i64 p3, .int .i64 p4, .int .i64 p5, .int .i64 p6, .int .i64 p7, .int .i64 p8, .int .i64 p9] 24) = W at *
  clear q0 q1 q2 q3 q4 
  go_loop [3] (fun i => ∃ j : Nat, j ≤ 8 ∧ i = .int .i64 (j : Int) ∧ Hid (([p0, p1, p2, p3, p4, p5, p6, p7].take j).all ptrB = true)) (fun i => 8 - (intOf i).toNat)
  case atStart => exact ⟨0, Nat.zero_le _, rfl, Lib.hid rfl⟩
  case round =>
    obtain ⟨j, hj, rfl, hall⟩ := hrel
    by_cases hlt : j < 8
    · obtain ⟨x, hx⟩ : ∃ x, [p0, p1, p2, p3, p4, p5, p6, p7][j]? = some x := ⟨_, List.getElem?_eq_getElem (by simpa using hlt)⟩
      have c0 := HD.out j x hx
      have Hx := Lib.hid hx
      have hs := HS.out
      have hj0 : (0 : Int) ≤ (j : Int) := Int.natCast_nonneg _
      have hj8 : (j : Int) < 8 := by omega
      clear hx
      cases hp : ptrB x
      · have Hp := Lib.hid (all_bad Hx.out hp)
        have Hq := Lib.hid hp
        clear hp
        go_wp2_with (go_at_call 34; (with_reducible refine (ptr_any x _).mono ?_); rintro e w' ⟨he, hw'⟩; obtain rfl := he; obtain rfl := hw'; rw [Hq.out])
        go_ret
        exact ⟨by rw [HV.out, Hp.out]; rfl, HB.out⟩
      · have Hp := Lib.hid (all_step hall.out Hx.out hp)
        have Hq := Lib.hid hp
        clear hp
        go_wp2_with (go_at_call 34; (with_reducible refine (ptr_any x _).mono ?_); rintro e w' ⟨he, hw'⟩; obtain rfl := he; obtain rfl := hw'; rw [Hq.out])
        go_round
        case rel => exact ⟨j + 1, by omega, by go_num, Hp⟩
        case measure => simp [intOf]; omega
    · obtain rfl : j = 8 := by omega
      have e8 : [p0, p1, p2, p3, p4, p5, p6, p7].all ptrB = true := hall.out
      have c12 : W.cell? ⟨w.heap.size, 12, none⟩ = some (.int .i64 p8) := h12.out
      have c13 : W.cell? ⟨w.heap.size, 13, none⟩ = some (.int .i64 p9) := h13.out
      have HV2 := Lib.hid (show b = (ptrB p8 && ptrB p9) by rw [HV.out, e8]; rfl)
      have hs := HS.out
      clear e8
      cases h8 : ptrB p8
      · have H8 := Lib.hid h8
        clear h8
        go_wp2_with (go_at_call 34; (with_reducible refine (ptr_any p8 _).mono ?_); rintro e w' ⟨he, hw'⟩; obtain rfl := he; obtain rfl := hw'; rw [H8.out])
        go_ret
        exact ⟨by rw [HV2.out, H8.out]; rfl, HB.out⟩
      · have H8 := Lib.hid h8
        clear h8
        go_wp2_with (first | (go_at_call 34; (with_reducible refine (ptr_any p8 _).mono ?_); rintro e w' ⟨he, hw'⟩; obtain rfl := he; obtain rfl := hw'; rw [H8.out]) | (go_at_call 34; (with_reducible refine (ptr_any p9 _).mono ?_); rintro e w' ⟨he, hw'⟩; obtain rfl := he; obtain rfl := hw'))
        go_ret
        exact ⟨by rw [HV2.out, H8.out]; rfl, HB.out⟩

set_option maxHeartbeats 1600000 in
set_option maxRecDepth 100000 in
theorem rright_in2 (r : Nat) (l s p0 p1 p2 p3 p4 p5 p6 p7 p8 p9 : Int) (w : World) (hr : r < 16) (l0 : 0 ≤ l) (l1 : l ≤ 65535) (s0 : 0 ≤ s) (s1 : s ≤ 3840) (hv : rightB (⟨2, r, l, s, [p0, p1, p2, p3, p4, p5, p6, p7, p8, p9]⟩ : Ino) = [p0, p1, p2, p3, p4, p5, p6, p7, p8, p9].all ptrB) :
    Calls Try.prog 14 #[.agg #[.int .u8 2, .int .u8 (r : Int), .int .i64 l, .int .i64 s, .int .i64 p0, .int .i64 p1, .int .i64 p2, .int .i64 p3, .int .i64 p4, .int .i64 p5, .int .i64 p6, .int .i64 p7, .int .i64 p8, .int .i64 p9]] w fun e w' => e = .returned (.bool (rightB (⟨2, r, l, s, [p0, p1, p2, p3, p4, p5, p6, p7, p8, p9]⟩ : Ino))) ∧ Below w.heap.size w w' := by
  have hbk : Bk (w.alloc (.cells #[.int .u8 2, .int .u8 (r : Int), .int .i64 l, .int .i64 s, .int .i64 p0, .int .i64 p1, .int .i64 p2, .int .i64 p3, .int .i64 p4, .int .i64 p5, .int .i64 p6, .int .i64 p7, .int .i64 p8, .int .i64 p9] 24)) w.heap.size 24 [.int .u8 2, .int .u8 (r : Int), .int .i64 l, .int .i64 s, .int .i64 p0, .int .i64 p1, .int .i64 p2, .int .i64 p3, .int .i64 p4, .int .i64 p5, .int .i64 p6, .int .i64 p7, .int .i64 p8, .int .i64 p9] := Bk.new w 24 _
  have HD := Lib.hid (dir_cell hbk)
  have h12 := Lib.hid (hbk.cell 12)
  have h13 := Lib.hid (hbk.cell 13)
  have HB := Lib.hid (alloc_below w (.cells #[.int .u8 2, .int .u8 (r : Int), .int .i64 l, .int .i64 s, .int .i64 p0, .int .i64 p1, .int .i64 p2, .int .i64 p3, .int .i64 p4, .int .i64 p5, .int .i64 p6, .int .i64 p7, .int .i64 p8, .int .i64 p9] 24))
  have HS := Lib.hid hbk.lt
  rw [ten_all] at hv
  have HV := Lib.hid hv
  have q0 : decide ((r : Int) ≥ 16) = false := decide_eq_false (by omega)
  have q1 : decide (l < 0) = false := decide_eq_false (by omega)
  have q2 : decide (l > 65535) = false := decide_eq_false (by omega)
  have q3 : decide (s < 0) = false := decide_eq_false (by omega)
  have q4 : decide (s > 3840) = false := decide_eq_false (by omega)
  have q5 : r < 16 := hr

  clear hbk hv
  generalize rightB (⟨2, r, l, s, [p0, p1, p2, p3, p4, p5, p6, p7, p8, p9]⟩ : Ino) = b at HV
  go_enter Try.func14, Try.ntmps14
  go_wp2
  generalize w.alloc (.cells #[.int .u8 2, .int .u8 (r : Int), .int .i64 l, .int .i64 s, .int .i64 p0, .int .i64 p1, .int .i64 p2, .int .i64 p3, .int .i64 p4, .int .i64 p5, .int .i64 p6, .int .i64 p7, .int .i64 p8, .int .i64 p9] 24) = W at *
  clear q0 q1 q2 q3 q4 
  go_loop [3] (fun i => ∃ j : Nat, j ≤ 8 ∧ i = .int .i64 (j : Int) ∧ Hid (([p0, p1, p2, p3, p4, p5, p6, p7].take j).all ptrB = true)) (fun i => 8 - (intOf i).toNat)
  case atStart => exact ⟨0, Nat.zero_le _, rfl, Lib.hid rfl⟩
  case round =>
    obtain ⟨j, hj, rfl, hall⟩ := hrel
    by_cases hlt : j < 8
    · obtain ⟨x, hx⟩ : ∃ x, [p0, p1, p2, p3, p4, p5, p6, p7][j]? = some x := ⟨_, List.getElem?_eq_getElem (by simpa using hlt)⟩
      have c0 := HD.out j x hx
      have Hx := Lib.hid hx
      have hs := HS.out
      have hj0 : (0 : Int) ≤ (j : Int) := Int.natCast_nonneg _
      have hj8 : (j : Int) < 8 := by omega
      clear hx
      cases hp : ptrB x
      · have Hp := Lib.hid (all_bad Hx.out hp)
        have Hq := Lib.hid hp
        clear hp
        go_wp2_with (go_at_call 34; (with_reducible refine (ptr_any x _).mono ?_); rintro e w' ⟨he, hw'⟩; obtain rfl := he; obtain rfl := hw'; rw [Hq.out])
        go_ret
        exact ⟨by rw [HV.out, Hp.out]; rfl, HB.out⟩
      · have Hp := Lib.hid (all_step hall.out Hx.out hp)
        have Hq := Lib.hid hp
        clear hp
        go_wp2_with (go_at_call 34; (with_reducible refine (ptr_any x _).mono ?_); rintro e w' ⟨he, hw'⟩; obtain rfl := he; obtain rfl := hw'; rw [Hq.out])
        go_round
        case rel => exact ⟨j + 1, by omega, by go_num, Hp⟩
        case measure => simp [intOf]; omega
    · obtain rfl : j = 8 := by omega
      have e8 : [p0, p1, p2, p3, p4, p5, p6, p7].all ptrB = true := hall.out
      have c12 : W.cell? ⟨w.heap.size, 12, none⟩ = some (.int .i64 p8) := h12.out
      have c13 : W.cell? ⟨w.heap.size, 13, none⟩ = some (.int .i64 p9) := h13.out
      have HV2 := Lib.hid (show b = (ptrB p8 && ptrB p9) by rw [HV.out, e8]; rfl)
      have hs := HS.out
      clear e8
      cases h8 : ptrB p8
      · have H8 := Lib.hid h8
        clear h8
        go_wp2_with (go_at_call 34; (with_reducible refine (ptr_any p8 _).mono ?_); rintro e w' ⟨he, hw'⟩; obtain rfl := he; obtain rfl := hw'; rw [H8.out])
        go_ret
        exact ⟨by rw [HV2.out, H8.out]; rfl, HB.out⟩
      · have H8 := Lib.hid h8
        clear h8
        go_wp2_with (first | (go_at_call 34; (with_reducible refine (ptr_any p8 _).mono ?_); rintro e w' ⟨he, hw'⟩; obtain rfl := he; obtain rfl := hw'; rw [H8.out]) | (go_at_call 34; (with_reducible refine (ptr_any p9 _).mono ?_); rintro e w' ⟨he, hw'⟩; obtain rfl := he; obtain rfl := hw'))
        go_ret
        exact ⟨by rw [HV2.out, H8.out]; rfl, HB.out⟩

set_option maxHeartbeats 800000 in
set_option maxRecDepth 100000 in
theorem rright_row1 (r : Nat) (l s p0 p1 p2 p3 p4 p5 p6 p7 p8 p9 : Int) (w : World) (h : ¬ r < 16) :
    Calls Try.prog 14 #[.agg #[.int .u8 1, .int .u8 (r : Int), .int .i64 l, .int .i64 s, .int .i64 p0, .int .i64 p1, .int .i64 p2, .int .i64 p3, .int .i64 p4, .int .i64 p5, .int .i64 p6, .int .i64 p7, .int .i64 p8, .int .i64 p9]] w fun e w' => e = .returned (.bool (rightB (⟨1, r, l, s, [p0, p1, p2, p3, p4, p5, p6, p7, p8, p9]⟩ : Ino))) ∧ Below w.heap.size w w' := by
  have HV := Lib.hid (not_row (l := l) (s := s) (p := [p0, p1, p2, p3, p4, p5, p6, p7, p8, p9]) (show 1 ≠ 0 by decide) h)
  have q0 : decide ((r : Int) ≥ 16) = true := decide_eq_true (by omega)
  go_enter Try.func14, Try.ntmps14
  go_wp2
  go_ret
  · refine ⟨by rw [HV.out]; rfl, ?_⟩
    repeat (first | with_reducible exact Below.refl _ _ | with_reducible refine below_drewN ?_ _ | with_reducible refine Below.setCell ?_ ?_ _ | with_reducible refine Below.alloc ?_ ?_ _)
    all_goals (first | omega | (simp <;> omega))

set_option maxHeartbeats 800000 in
set_option maxRecDepth 100000 in
theorem rright_l01 (r : Nat) (l s p0 p1 p2 p3 p4 p5 p6 p7 p8 p9 : Int) (w : World) (hr : r < 16) (h : l < 0) :
    Calls Try.prog 14 #[.agg #[.int .u8 1, .int .u8 (r : Int), .int .i64 l, .int .i64 s, .int .i64 p0, .int .i64 p1, .int .i64 p2, .int .i64 p3, .int .i64 p4, .int .i64 p5, .int .i64 p6, .int .i64 p7, .int .i64 p8, .int .i64 p9]] w fun e w' => e = .returned (.bool (rightB (⟨1, r, l, s, [p0, p1, p2, p3, p4, p5, p6, p7, p8, p9]⟩ : Ino))) ∧ Below w.heap.size w w' := by
  have HV := Lib.hid (not_l (r := r) (l := l) (s := s) (p := [p0, p1, p2, p3, p4, p5, p6, p7, p8, p9]) (show 1 ≠ 0 by decide) (by simp [upB]; omega))
  have q0 : decide ((r : Int) ≥ 16) = false := decide_eq_false (by omega)
  have q1 : decide (l < 0) = true := decide_eq_true h
  go_enter Try.func14, Try.ntmps14
  go_wp2
  go_ret
  · refine ⟨by rw [HV.out]; rfl, ?_⟩
    repeat (first | with_reducible exact Below.refl _ _ | with_reducible refine below_drewN ?_ _ | with_reducible refine Below.setCell ?_ ?_ _ | with_reducible refine Below.alloc ?_ ?_ _)
    all_goals (first | omega | (simp <;> omega))

set_option maxHeartbeats 800000 in
set_option maxRecDepth 100000 in
theorem rright_l11 (r : Nat) (l s p0 p1 p2 p3 p4 p5 p6 p7 p8 p9 : Int) (w : World) (hr : r < 16) (_ : 0 ≤ l) (h : 65535 < l) :
    Calls Try.prog 14 #[.agg #[.int .u8 1, .int .u8 (r : Int), .int .i64 l, .int .i64 s, .int .i64 p0, .int .i64 p1, .int .i64 p2, .int .i64 p3, .int .i64 p4, .int .i64 p5, .int .i64 p6, .int .i64 p7, .int .i64 p8, .int .i64 p9]] w fun e w' => e = .returned (.bool (rightB (⟨1, r, l, s, [p0, p1, p2, p3, p4, p5, p6, p7, p8, p9]⟩ : Ino))) ∧ Below w.heap.size w w' := by
  have HV := Lib.hid (not_l (r := r) (l := l) (s := s) (p := [p0, p1, p2, p3, p4, p5, p6, p7, p8, p9]) (show 1 ≠ 0 by decide) (by simp [upB]; omega))
  have q0 : decide ((r : Int) ≥ 16) = false := decide_eq_false (by omega)
  have q1 : decide (l < 0) = false := decide_eq_false (by omega)
  have q2 : decide (l > 65535) = true := decide_eq_true h
  go_enter Try.func14, Try.ntmps14
  go_wp2
  go_ret
  · refine ⟨by rw [HV.out]; rfl, ?_⟩
    repeat (first | with_reducible exact Below.refl _ _ | with_reducible refine below_drewN ?_ _ | with_reducible refine Below.setCell ?_ ?_ _ | with_reducible refine Below.alloc ?_ ?_ _)
    all_goals (first | omega | (simp <;> omega))

set_option maxHeartbeats 800000 in
set_option maxRecDepth 100000 in
theorem rright_s01 (r : Nat) (l s p0 p1 p2 p3 p4 p5 p6 p7 p8 p9 : Int) (w : World) (hr : r < 16) (h0 : 0 ≤ l) (h1 : l ≤ 65535) (h : s < 0) :
    Calls Try.prog 14 #[.agg #[.int .u8 1, .int .u8 (r : Int), .int .i64 l, .int .i64 s, .int .i64 p0, .int .i64 p1, .int .i64 p2, .int .i64 p3, .int .i64 p4, .int .i64 p5, .int .i64 p6, .int .i64 p7, .int .i64 p8, .int .i64 p9]] w fun e w' => e = .returned (.bool (rightB (⟨1, r, l, s, [p0, p1, p2, p3, p4, p5, p6, p7, p8, p9]⟩ : Ino))) ∧ Below w.heap.size w w' := by
  have HV := Lib.hid (not_s (r := r) (l := l) (s := s) (p := [p0, p1, p2, p3, p4, p5, p6, p7, p8, p9]) (show 1 ≠ 0 by decide) (by simp [upB]; omega))
  have q0 : decide ((r : Int) ≥ 16) = false := decide_eq_false (by omega)
  have q1 : decide (l < 0) = false := decide_eq_false (by omega)
  have q2 : decide (l > 65535) = false := decide_eq_false (by omega)
  have q3 : decide (s < 0) = true := decide_eq_true h
  go_enter Try.func14, Try.ntmps14
  go_wp2
  go_ret
  · refine ⟨by rw [HV.out]; rfl, ?_⟩
    repeat (first | with_reducible exact Below.refl _ _ | with_reducible refine below_drewN ?_ _ | with_reducible refine Below.setCell ?_ ?_ _ | with_reducible refine Below.alloc ?_ ?_ _)
    all_goals (first | omega | (simp <;> omega))

set_option maxHeartbeats 800000 in
set_option maxRecDepth 100000 in
theorem rright_s11 (r : Nat) (l s p0 p1 p2 p3 p4 p5 p6 p7 p8 p9 : Int) (w : World) (hr : r < 16) (h0 : 0 ≤ l) (h1 : l ≤ 65535) (_ : 0 ≤ s) (h : 3840 < s) :
    Calls Try.prog 14 #[.agg #[.int .u8 1, .int .u8 (r : Int), .int .i64 l, .int .i64 s, .int .i64 p0, .int .i64 p1, .int .i64 p2, .int .i64 p3, .int .i64 p4, .int .i64 p5, .int .i64 p6, .int .i64 p7, .int .i64 p8, .int .i64 p9]] w fun e w' => e = .returned (.bool (rightB (⟨1, r, l, s, [p0, p1, p2, p3, p4, p5, p6, p7, p8, p9]⟩ : Ino))) ∧ Below w.heap.size w w' := by
  have HV := Lib.hid (not_s (r := r) (l := l) (s := s) (p := [p0, p1, p2, p3, p4, p5, p6, p7, p8, p9]) (show 1 ≠ 0 by decide) (by simp [upB]; omega))
  have q0 : decide ((r : Int) ≥ 16) = false := decide_eq_false (by omega)
  have q1 : decide (l < 0) = false := decide_eq_false (by omega)
  have q2 : decide (l > 65535) = false := decide_eq_false (by omega)
  have q3 : decide (s < 0) = false := decide_eq_false (by omega)
  have q4 : decide (s > 3840) = true := decide_eq_true h
  go_enter Try.func14, Try.ntmps14
  go_wp2
  go_ret
  · refine ⟨by rw [HV.out]; rfl, ?_⟩
    repeat (first | with_reducible exact Below.refl _ _ | with_reducible refine below_drewN ?_ _ | with_reducible refine Below.setCell ?_ ?_ _ | with_reducible refine Below.alloc ?_ ?_ _)
    all_goals (first | omega | (simp <;> omega))

set_option maxHeartbeats 800000 in
set_option maxRecDepth 100000 in
theorem rright_row2 (r : Nat) (l s p0 p1 p2 p3 p4 p5 p6 p7 p8 p9 : Int) (w : World) (h : ¬ r < 16) :
    Calls Try.prog 14 #[.agg #[.int .u8 2, .int .u8 (r : Int), .int .i64 l, .int .i64 s, .int .i64 p0, .int .i64 p1, .int .i64 p2, .int .i64 p3, .int .i64 p4, .int .i64 p5, .int .i64 p6, .int .i64 p7, .int .i64 p8, .int .i64 p9]] w fun e w' => e = .returned (.bool (rightB (⟨2, r, l, s, [p0, p1, p2, p3, p4, p5, p6, p7, p8, p9]⟩ : Ino))) ∧ Below w.heap.size w w' := by
  have HV := Lib.hid (not_row (l := l) (s := s) (p := [p0, p1, p2, p3, p4, p5, p6, p7, p8, p9]) (show 2 ≠ 0 by decide) h)
  have q0 : decide ((r : Int) ≥ 16) = true := decide_eq_true (by omega)
  go_enter Try.func14, Try.ntmps14
  go_wp2
  go_ret
  · refine ⟨by rw [HV.out]; rfl, ?_⟩
    repeat (first | with_reducible exact Below.refl _ _ | with_reducible refine below_drewN ?_ _ | with_reducible refine Below.setCell ?_ ?_ _ | with_reducible refine Below.alloc ?_ ?_ _)
    all_goals (first | omega | (simp <;> omega))

set_option maxHeartbeats 800000 in
set_option maxRecDepth 100000 in
theorem rright_l02 (r : Nat) (l s p0 p1 p2 p3 p4 p5 p6 p7 p8 p9 : Int) (w : World) (hr : r < 16) (h : l < 0) :
    Calls Try.prog 14 #[.agg #[.int .u8 2, .int .u8 (r : Int), .int .i64 l, .int .i64 s, .int .i64 p0, .int .i64 p1, .int .i64 p2, .int .i64 p3, .int .i64 p4, .int .i64 p5, .int .i64 p6, .int .i64 p7, .int .i64 p8, .int .i64 p9]] w fun e w' => e = .returned (.bool (rightB (⟨2, r, l, s, [p0, p1, p2, p3, p4, p5, p6, p7, p8, p9]⟩ : Ino))) ∧ Below w.heap.size w w' := by
  have HV := Lib.hid (not_l (r := r) (l := l) (s := s) (p := [p0, p1, p2, p3, p4, p5, p6, p7, p8, p9]) (show 2 ≠ 0 by decide) (by simp [upB]; omega))
  have q0 : decide ((r : Int) ≥ 16) = false := decide_eq_false (by omega)
  have q1 : decide (l < 0) = true := decide_eq_true h
  go_enter Try.func14, Try.ntmps14
  go_wp2
  go_ret
  · refine ⟨by rw [HV.out]; rfl, ?_⟩
    repeat (first | with_reducible exact Below.refl _ _ | with_reducible refine below_drewN ?_ _ | with_reducible refine Below.setCell ?_ ?_ _ | with_reducible refine Below.alloc ?_ ?_ _)
    all_goals (first | omega | (simp <;> omega))

set_option maxHeartbeats 800000 in
set_option maxRecDepth 100000 in
theorem rright_l12 (r : Nat) (l s p0 p1 p2 p3 p4 p5 p6 p7 p8 p9 : Int) (w : World) (hr : r < 16) (_ : 0 ≤ l) (h : 65535 < l) :
    Calls Try.prog 14 #[.agg #[.int .u8 2, .int .u8 (r : Int), .int .i64 l, .int .i64 s, .int .i64 p0, .int .i64 p1, .int .i64 p2, .int .i64 p3, .int .i64 p4, .int .i64 p5, .int .i64 p6, .int .i64 p7, .int .i64 p8, .int .i64 p9]] w fun e w' => e = .returned (.bool (rightB (⟨2, r, l, s, [p0, p1, p2, p3, p4, p5, p6, p7, p8, p9]⟩ : Ino))) ∧ Below w.heap.size w w' := by
  have HV := Lib.hid (not_l (r := r) (l := l) (s := s) (p := [p0, p1, p2, p3, p4, p5, p6, p7, p8, p9]) (show 2 ≠ 0 by decide) (by simp [upB]; omega))
  have q0 : decide ((r : Int) ≥ 16) = false := decide_eq_false (by omega)
  have q1 : decide (l < 0) = false := decide_eq_false (by omega)
  have q2 : decide (l > 65535) = true := decide_eq_true h
  go_enter Try.func14, Try.ntmps14
  go_wp2
  go_ret
  · refine ⟨by rw [HV.out]; rfl, ?_⟩
    repeat (first | with_reducible exact Below.refl _ _ | with_reducible refine below_drewN ?_ _ | with_reducible refine Below.setCell ?_ ?_ _ | with_reducible refine Below.alloc ?_ ?_ _)
    all_goals (first | omega | (simp <;> omega))

set_option maxHeartbeats 800000 in
set_option maxRecDepth 100000 in
theorem rright_s02 (r : Nat) (l s p0 p1 p2 p3 p4 p5 p6 p7 p8 p9 : Int) (w : World) (hr : r < 16) (h0 : 0 ≤ l) (h1 : l ≤ 65535) (h : s < 0) :
    Calls Try.prog 14 #[.agg #[.int .u8 2, .int .u8 (r : Int), .int .i64 l, .int .i64 s, .int .i64 p0, .int .i64 p1, .int .i64 p2, .int .i64 p3, .int .i64 p4, .int .i64 p5, .int .i64 p6, .int .i64 p7, .int .i64 p8, .int .i64 p9]] w fun e w' => e = .returned (.bool (rightB (⟨2, r, l, s, [p0, p1, p2, p3, p4, p5, p6, p7, p8, p9]⟩ : Ino))) ∧ Below w.heap.size w w' := by
  have HV := Lib.hid (not_s (r := r) (l := l) (s := s) (p := [p0, p1, p2, p3, p4, p5, p6, p7, p8, p9]) (show 2 ≠ 0 by decide) (by simp [upB]; omega))
  have q0 : decide ((r : Int) ≥ 16) = false := decide_eq_false (by omega)
  have q1 : decide (l < 0) = false := decide_eq_false (by omega)
  have q2 : decide (l > 65535) = false := decide_eq_false (by omega)
  have q3 : decide (s < 0) = true := decide_eq_true h
  go_enter Try.func14, Try.ntmps14
  go_wp2
  go_ret
  · refine ⟨by rw [HV.out]; rfl, ?_⟩
    repeat (first | with_reducible exact Below.refl _ _ | with_reducible refine below_drewN ?_ _ | with_reducible refine Below.setCell ?_ ?_ _ | with_reducible refine Below.alloc ?_ ?_ _)
    all_goals (first | omega | (simp <;> omega))

set_option maxHeartbeats 800000 in
set_option maxRecDepth 100000 in
theorem rright_s12 (r : Nat) (l s p0 p1 p2 p3 p4 p5 p6 p7 p8 p9 : Int) (w : World) (hr : r < 16) (h0 : 0 ≤ l) (h1 : l ≤ 65535) (_ : 0 ≤ s) (h : 3840 < s) :
    Calls Try.prog 14 #[.agg #[.int .u8 2, .int .u8 (r : Int), .int .i64 l, .int .i64 s, .int .i64 p0, .int .i64 p1, .int .i64 p2, .int .i64 p3, .int .i64 p4, .int .i64 p5, .int .i64 p6, .int .i64 p7, .int .i64 p8, .int .i64 p9]] w fun e w' => e = .returned (.bool (rightB (⟨2, r, l, s, [p0, p1, p2, p3, p4, p5, p6, p7, p8, p9]⟩ : Ino))) ∧ Below w.heap.size w w' := by
  have HV := Lib.hid (not_s (r := r) (l := l) (s := s) (p := [p0, p1, p2, p3, p4, p5, p6, p7, p8, p9]) (show 2 ≠ 0 by decide) (by simp [upB]; omega))
  have q0 : decide ((r : Int) ≥ 16) = false := decide_eq_false (by omega)
  have q1 : decide (l < 0) = false := decide_eq_false (by omega)
  have q2 : decide (l > 65535) = false := decide_eq_false (by omega)
  have q3 : decide (s < 0) = false := decide_eq_false (by omega)
  have q4 : decide (s > 3840) = true := decide_eq_true h
  go_enter Try.func14, Try.ntmps14
  go_wp2
  go_ret
  · refine ⟨by rw [HV.out]; rfl, ?_⟩
    repeat (first | with_reducible exact Below.refl _ _ | with_reducible refine below_drewN ?_ _ | with_reducible refine Below.setCell ?_ ?_ _ | with_reducible refine Below.alloc ?_ ?_ _)
    all_goals (first | omega | (simp <;> omega))

set_option maxHeartbeats 800000 in
set_option maxRecDepth 100000 in
theorem rright_free0 (r : Nat) (l s p0 p1 p2 p3 p4 p5 p6 p7 p8 p9 : Int) (w : World) (he : ∀ W, (binOp .neq 24 (.agg #[.int .u8 0, .int .u8 (r : Int), .int .i64 l, .int .i64 s, .int .i64 p0, .int .i64 p1, .int .i64 p2, .int .i64 p3, .int .i64 p4, .int .i64 p5, .int .i64 p6, .int .i64 p7, .int .i64 p8, .int .i64 p9]) (.agg #[.int .u8 0, .int .u8 0, .int .i64 0, .int .i64 0, .int .i64 0, .int .i64 0, .int .i64 0, .int .i64 0, .int .i64 0, .int .i64 0, .int .i64 0, .int .i64 0, .int .i64 0, .int .i64 0])).run Try.prog W = .ok (.bool true) W) (hv : rightB (⟨0, r, l, s, [p0, p1, p2, p3, p4, p5, p6, p7, p8, p9]⟩ : Ino) = false) :
    Calls Try.prog 14 #[.agg #[.int .u8 0, .int .u8 (r : Int), .int .i64 l, .int .i64 s, .int .i64 p0, .int .i64 p1, .int .i64 p2, .int .i64 p3, .int .i64 p4, .int .i64 p5, .int .i64 p6, .int .i64 p7, .int .i64 p8, .int .i64 p9]] w fun e w' => e = .returned (.bool (rightB (⟨0, r, l, s, [p0, p1, p2, p3, p4, p5, p6, p7, p8, p9]⟩ : Ino))) ∧ Below w.heap.size w w' := by
  have HV := Lib.hid (hv)
  have hg : ∀ (x y : Operand) (xs ys : Array Value) (op : BinOp) (W : World), (eqGuard op 24 x y (.agg xs) (.agg ys)).run Try.prog W = .ok () W := fun x y xs ys op W => guard_at24 W x y xs ys op
  go_enter Try.func14, Try.ntmps14
  go_wp2
  go_ret
  · refine ⟨by rw [HV.out]; rfl, ?_⟩
    repeat (first | with_reducible exact Below.refl _ _ | with_reducible refine below_drewN ?_ _ | with_reducible refine Below.setCell ?_ ?_ _ | with_reducible refine Below.alloc ?_ ?_ _)
    all_goals (first | omega | (simp <;> omega))

set_option maxHeartbeats 800000 in
set_option maxRecDepth 100000 in
theorem rright_kindk (r : Nat) (l s p0 p1 p2 p3 p4 p5 p6 p7 p8 p9 : Int) (w : World) (k : Nat) (h : 2 < k) :
    Calls Try.prog 14 #[.agg #[.int .u8 (k : Int), .int .u8 (r : Int), .int .i64 l, .int .i64 s, .int .i64 p0, .int .i64 p1, .int .i64 p2, .int .i64 p3, .int .i64 p4, .int .i64 p5, .int .i64 p6, .int .i64 p7, .int .i64 p8, .int .i64 p9]] w fun e w' => e = .returned (.bool (rightB (⟨k, r, l, s, [p0, p1, p2, p3, p4, p5, p6, p7, p8, p9]⟩ : Ino))) ∧ Below w.heap.size w w' := by
  have HV := Lib.hid (not_kind (r := r) (l := l) (s := s) (p := [p0, p1, p2, p3, p4, p5, p6, p7, p8, p9]) h)
  have q0 : decide ((k : Int) > 2) = true := decide_eq_true (by omega)
  go_enter Try.func14, Try.ntmps14
  go_wp2
  go_ret
  · refine ⟨by rw [HV.out]; rfl, ?_⟩
    repeat (first | with_reducible exact Below.refl _ _ | with_reducible refine below_drewN ?_ _ | with_reducible refine Below.setCell ?_ ?_ _ | with_reducible refine Below.alloc ?_ ?_ _)
    all_goals (first | omega | (simp <;> omega))

theorem rright_ten (k r : Nat) (l s p0 p1 p2 p3 p4 p5 p6 p7 p8 p9 : Int) (w : World) (hr : r < 256) :
    Calls Try.prog 14 #[.agg #[.int .u8 (k : Int), .int .u8 (r : Int), .int .i64 l, .int .i64 s, .int .i64 p0, .int .i64 p1, .int .i64 p2, .int .i64 p3, .int .i64 p4, .int .i64 p5, .int .i64 p6, .int .i64 p7, .int .i64 p8, .int .i64 p9]] w fun e w' => e = .returned (.bool (rightB (⟨k, r, l, s, [p0, p1, p2, p3, p4, p5, p6, p7, p8, p9]⟩ : Ino))) ∧ Below w.heap.size w w' := by
  by_cases h2 : 2 < k
  · exact rright_kindk r l s p0 p1 p2 p3 p4 p5 p6 p7 p8 p9 w k h2
  by_cases h0 : k = 0
  · subst h0
    have hz : ∀ W, (binOp .neq 24 (.agg #[.int .u8 0, .int .u8 (r : Int), .int .i64 l, .int .i64 s, .int .i64 p0, .int .i64 p1, .int .i64 p2, .int .i64 p3, .int .i64 p4, .int .i64 p5, .int .i64 p6, .int .i64 p7, .int .i64 p8, .int .i64 p9]) (.agg #[.int .u8 0, .int .u8 0, .int .i64 0, .int .i64 0, .int .i64 0, .int .i64 0, .int .i64 0, .int .i64 0, .int .i64 0, .int .i64 0, .int .i64 0, .int .i64 0, .int .i64 0, .int .i64 0])).run Try.prog W = .ok (.bool (!decB ((⟨0, r, l, s, [p0, p1, p2, p3, p4, p5, p6, p7, p8, p9]⟩ : Ino) = .z))) W := fun W => ino_neq W (⟨0, r, l, s, [p0, p1, p2, p3, p4, p5, p6, p7, p8, p9]⟩ : Ino) .z ⟨rfl, show 0 < 256 by decide, hr⟩ Oki.z
    by_cases h : (⟨0, r, l, s, [p0, p1, p2, p3, p4, p5, p6, p7, p8, p9]⟩ : Ino) = .z
    · rw [decB_yes h] at hz
      have hv : rightB (⟨0, r, l, s, [p0, p1, p2, p3, p4, p5, p6, p7, p8, p9]⟩ : Ino) = [p0, p1, p2, p3, p4, p5, p6, p7, p8, p9].all ptrB := by
        rw [rightB_yes (.inl h)]
        have e : [p0, p1, p2, p3, p4, p5, p6, p7, p8, p9] = [0, 0, 0, 0, 0, 0, 0, 0, 0, 0] := congrArg Ino.p h
        rw [e]
        rfl
      have e1 : r = 0 := congrArg Ino.r h
      have e2 : l = 0 := congrArg Ino.l h
      have e3 : s = 0 := congrArg Ino.s h
      exact rright_in0 r l s p0 p1 p2 p3 p4 p5 p6 p7 p8 p9 w (by omega) (by omega) (by omega) (by omega) (by omega) hv hz
    · rw [decB_no h] at hz
      exact rright_free0 r l s p0 p1 p2 p3 p4 p5 p6 p7 p8 p9 w hz (by rw [is_free]; exact decB_no h)
  have hk : k = 1 ∨ k = 2 := by omega
  by_cases hrow : r < 16
  rotate_left
  · rcases hk with rfl | rfl
    · exact rright_row1 r l s p0 p1 p2 p3 p4 p5 p6 p7 p8 p9 w hrow
    · exact rright_row2 r l s p0 p1 p2 p3 p4 p5 p6 p7 p8 p9 w hrow
  by_cases l0 : 0 ≤ l
  rotate_left
  · rcases hk with rfl | rfl
    · exact rright_l01 r l s p0 p1 p2 p3 p4 p5 p6 p7 p8 p9 w hrow (by omega)
    · exact rright_l02 r l s p0 p1 p2 p3 p4 p5 p6 p7 p8 p9 w hrow (by omega)
  by_cases l1 : l ≤ 65535
  rotate_left
  · rcases hk with rfl | rfl
    · exact rright_l11 r l s p0 p1 p2 p3 p4 p5 p6 p7 p8 p9 w hrow l0 (by omega)
    · exact rright_l12 r l s p0 p1 p2 p3 p4 p5 p6 p7 p8 p9 w hrow l0 (by omega)
  by_cases s0 : 0 ≤ s
  rotate_left
  · rcases hk with rfl | rfl
    · exact rright_s01 r l s p0 p1 p2 p3 p4 p5 p6 p7 p8 p9 w hrow l0 l1 (by omega)
    · exact rright_s02 r l s p0 p1 p2 p3 p4 p5 p6 p7 p8 p9 w hrow l0 l1 (by omega)
  by_cases s1 : s ≤ 3840
  rotate_left
  · rcases hk with rfl | rfl
    · exact rright_s11 r l s p0 p1 p2 p3 p4 p5 p6 p7 p8 p9 w hrow l0 l1 s0 (by omega)
    · exact rright_s12 r l s p0 p1 p2 p3 p4 p5 p6 p7 p8 p9 w hrow l0 l1 s0 (by omega)
  have hv := is_ptr (p := [p0, p1, p2, p3, p4, p5, p6, p7, p8, p9]) hk hrow (upB_iff.2 ⟨l0, l1⟩) (upB_iff.2 ⟨s0, s1⟩)
  rcases hk with rfl | rfl
  · exact rright_in1 r l s p0 p1 p2 p3 p4 p5 p6 p7 p8 p9 w hrow l0 l1 s0 s1 hv
  · exact rright_in2 r l s p0 p1 p2 p3 p4 p5 p6 p7 p8 p9 w hrow l0 l1 s0 s1 hv

/-- Right, and the document's. -/
theorem right_any (n : Ino) (ho : Oki n) (w : World) : Calls Try.prog 13 #[inoV n] w fun e w' => e = .returned (.bool (rightB n)) ∧ Below w.heap.size w w' := by
  obtain ⟨k, r, l, s, p⟩ := n
  obtain ⟨p0, p1, p2, p3, p4, p5, p6, p7, p8, p9, hp⟩ := ten_of ho.len
  simp only at hp
  subst hp
  exact right_ten k r l s p0 p1 p2 p3 p4 p5 p6 p7 p8 p9 w ho.k ho.r
theorem rright_any (n : Ino) (ho : Oki n) (w : World) : Calls Try.prog 14 #[inoV n] w fun e w' => e = .returned (.bool (rightB n)) ∧ Below w.heap.size w w' := by
  obtain ⟨k, r, l, s, p⟩ := n
  obtain ⟨p0, p1, p2, p3, p4, p5, p6, p7, p8, p9, hp⟩ := ten_of ho.len
  simp only at hp
  subst hp
  exact rright_ten k r l s p0 p1 p2 p3 p4 p5 p6 p7 p8 p9 w ho.r
theorem pof_any (n : Ino) (ho : Oki n) (w : World) : Calls Try.prog 27 #[inoV n] w fun e w' => e = .returned (.agg (intsV n.p).toArray) ∧ Below w.heap.size w w' := by
  obtain ⟨k, r, l, s, p⟩ := n
  obtain ⟨p0, p1, p2, p3, p4, p5, p6, p7, p8, p9, hp⟩ := ten_of ho.len
  simp only at hp
  subst hp
  exact pof_ten k r l s p0 p1 p2 p3 p4 p5 p6 p7 p8 p9 w
end Go.Proofs.Ytahpdnfnaimbnaa.Inode
