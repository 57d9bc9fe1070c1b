/-
  What the program's calls on a table of processes answer, and what they make of it: Open, Fd, Move, New.
  No condition is set.
-/
import Derived.Test.YtnahccdjeilboaaWa
namespace Go.Proofs.Ytnahccdjeilboaa.Prc
open Go.RowKit Apart
attribute [local go_sem ↓] Go.wp_at_zero Go.wp_at_succ

theorem nil_some_in (w : World) (g d : Nat) : (Op.equalIn (d + 1) 68 (.pointer none) (.pointer (some ⟨g, 0, none⟩))).run Try.prog w = .ok false w := by
  simp [Op.equalIn, run_underlying Try.underlying68]
theorem nil_some (w : World) (g : Nat) : (binOp BinOp.eql 68 (.pointer none) (.pointer (some ⟨g, 0, none⟩))).run Try.prog w = .ok (.bool false) w := by
  have h : (Op.equal 68 (.pointer none) (.pointer (some ⟨g, 0, none⟩))).run Try.prog w = .ok false w := nil_some_in w g 9999
  simp [binOp, go_sem, h]
set_option maxHeartbeats 400000 in
theorem idx_any {w : World} {b o : Nat} (F : Nat → Option Nat) (hc : ∀ j, j < 8 → w.cell? ⟨b, o + j, none⟩ = some (ptrV (F j))) (L : Nat) (hL : L ≤ 8) (h1 : ∀ i, i < L → F i ≠ none) (h2 : L < 8 → F L = none) :
    Calls Try.prog 32 #[.slice (some ⟨b, o, none⟩) 8 8, .pointer none] w fun e w' => e = .returned (.int .i64 (if L < 8 then (L : Int) else -1)) ∧ w = w' := by
  have HC := Lib.hid hc
  have H1 := Lib.hid h1
  have H2 := Lib.hid h2
  clear hc h1 h2
  go_enter Try.func32, Try.ntmps32
  go_wp2
  go_loop [5, 8] (fun _ i => ∃ j : Nat, j ≤ L ∧ i = .int .i64 (j : Int)) (fun _ i => 8 - (intOf i).toNat)
  case atStart => exact ⟨0, Nat.zero_le _, rfl⟩
  case round =>
    obtain ⟨j, hj, rfl⟩ := hrel
    by_cases h8 : j < 8
    · have hi : (j : Int) < 8 := by omega
      have hcj := HC.out j h8
      by_cases hjl : j < L
      · obtain ⟨g, hg⟩ : ∃ g, F j = some g := by
          cases hF : F j with
          | none => exact (H1.out j hjl hF).elim
          | some g => exact ⟨g, rfl⟩
        rw [hg] at hcj
        simp only [ptrV, Option.map_some] at hcj
        clear hg
        have hnn := nil_some w g
        go_wp2
        go_round
        case rel => exact ⟨j + 1, by omega, by go_num⟩
        case measure => simp [intOf]; omega
      · obtain rfl : j = L := by omega
        rw [H2.out h8] at hcj
        simp only [ptrV, Option.map_none] at hcj
        go_wp2
        go_ret
        exact ⟨by first | rfl | rw [if_pos h8], rfl⟩
    · obtain rfl : j = 8 := by omega
      obtain rfl : L = 8 := by omega
      go_wp2
      go_ret
      exact ⟨rfl, rfl⟩

section
variable {w : World} {b : Nat} {t : Tb} {G : Nat → Option Nat} {P : Nat → Prop}
theorem low_G (h : TabG b t G w) {q : Nat} (hq : q < 8) : (∀ i, i < low t.fil (q * 8) → G (q * 8 + i) ≠ none) ∧ (low t.fil (q * 8) < 8 → G (q * 8 + low t.fil (q * 8)) = none) := by
  have hl := low_le t.fil (q * 8)
  refine ⟨fun i hi hg => ?_, fun h8 => h.nil (by omega) (low_at h8)⟩
  exact low_lt hi (h.none_ _ (by omega) hg)
set_option maxHeartbeats 800000 in
theorem open_any (h : TabG b t G w) (hP : ∀ i, P i ↔ ftG b G i) (hbd : Bd P w) (ht : t.Ok) (p i : Int) :
    Calls Try.prog 21 #[.pointer (some ⟨b, 0, none⟩), .int .i64 p, .int .i64 i] w fun e w' => e = .returned (.tuple #[.int .i64 (openA t p i).1, .int .i64 (openA t p i).2.1]) ∧ Nx (TabA b (openA t p i).2.2) P w w' := by
  have same : Nx (TabA b t) P w w := Nx.same ⟨G, h, hP⟩ hbd
  have hc := Lib.hid h.c0
  cases hb : hasB t.n p
  · have e1 : openA t p i = (0, 1, t) := by simp [openA, hb]
    rw [e1]
    have Hb := Lib.hid hb
    clear e1 hb
    go_enter Try.func21, Try.ntmps21
    go_wp2_with (go_at_call 31; refine (reach_no hc.out Hb.out).mono ?_; rintro e w' ⟨rfl, rfl⟩)
    go_ret2
    exact ⟨rfl, same⟩
  · obtain ⟨q, rfl, hq⟩ := has_nat hb
    have h8 : q < 8 := by have := ht.hi; omega
    have h9 : (q : Int) < 8 := by omega
    cases hi : inoB i
    · have e1 : openA t (q : Int) i = (0, 1, t) := by simp [openA, hi]
      rw [e1]
      have hi2 : i < 0 ∨ (0 ≤ i ∧ 64 ≤ i) := by
        simp only [inoB, Bool.and_eq_false_iff, decide_eq_false_iff_not] at hi
        omega
      clear e1 hb hi
      rcases hi2 with h5 | ⟨h5, h6⟩
      · go_enter Try.func21, Try.ntmps21
        go_wp2_with (go_at_call 31; refine (reach_yes hc.out hq).mono ?_; rintro e w' ⟨rfl, rfl⟩)
        go_ret2
        exact ⟨rfl, same⟩
      · have h7 : ¬ i < 0 := by omega
        go_enter Try.func21, Try.ntmps21
        go_wp2_with (go_at_call 31; refine (reach_yes hc.out hq).mono ?_; rintro e w' ⟨rfl, rfl⟩)
        go_ret2
        exact ⟨rfl, same⟩
    · have hi2 : 0 ≤ i ∧ i < 64 := by simpa [inoB] using hi
      obtain ⟨hi3, hi4⟩ := hi2
      have hi5 : ¬ (64 ≤ i) := by omega
      have hi6 : ¬ (i < 0) := by omega
      have hcf : ∀ j, j < 8 → w.cell? ⟨b, 9 + q * 8 + j, none⟩ = some (ptrV (G (q * 8 + j))) := fun j hj => h.cf2 h8 hj
      obtain ⟨hl1, hl2⟩ := low_G h h8
      have hle := low_le t.fil (q * 8)
      have HI := Lib.hid (idx_any (fun j => G (q * 8 + j)) hcf (low t.fil (q * 8)) hle hl1 hl2)
      by_cases hlo : low t.fil (q * 8) < 8
      · have e1 : openA t (q : Int) i = ((low t.fil (q * 8) : Int), 0, { t with fil := upd t.fil (q * 8 + low t.fil (q * 8)) (some (i, 0)) }) := by simp [openA, hb, hi, hlo]
        rw [e1]
        rw [if_pos hlo] at HI
        have hG := low_at hlo
        have Hr := Lib.hid (tab_open2 h hP h8 hlo i hG)
        have hcell := h.cf2 h8 hlo
        have hfz := h.blk.frozen (9 + q * 8 + low t.fil (q * 8))
        have hbl := h.blk.lt
        generalize low t.fil (q * 8) = L at *
        have hL8 : (L : Int) < 8 := by omega
        have hL0 : ¬ (L : Int) < 0 := by omega
        clear e1 hb hi hcf hl1 hl2 hG
        go_enter Try.func21, Try.ntmps21
        go_wp2_with (first | (go_at_call 31; refine (reach_yes hc.out hq).mono ?_; rintro e w' ⟨rfl, rfl⟩) | (go_at_call 32; refine HI.out.mono ?_; rintro e w' ⟨rfl, rfl⟩))
        go_ret2
        exact ⟨rfl, Hr.out⟩
      · have e1 : openA t (q : Int) i = (0, 5, t) := by simp [openA, hb, hi, hlo]
        rw [e1]
        rw [if_neg hlo] at HI
        clear e1 hb hi hcf hl1 hl2 hle hlo
        go_enter Try.func21, Try.ntmps21
        go_wp2_with (first | (go_at_call 31; refine (reach_yes hc.out hq).mono ?_; rintro e w' ⟨rfl, rfl⟩) | (go_at_call 32; refine HI.out.mono ?_; rintro e w' ⟨rfl, rfl⟩))
        go_ret2
        exact ⟨rfl, same⟩
set_option maxHeartbeats 400000 in
theorem open_nil (w : World) (p i : Int) : Calls Try.prog 21 #[.pointer none, .int .i64 p, .int .i64 i] w fun e w' => e = .returned (.tuple #[.int .i64 0, .int .i64 2]) ∧ w = w' := by
  go_enter Try.func21, Try.ntmps21
  go_wp2_with (go_at_call 31; refine (reach_nil _ _).mono ?_; rintro e w' ⟨rfl, rfl⟩)
  go_ret2
  exact ⟨rfl, rfl⟩
set_option maxHeartbeats 400000 in
theorem close_nil (w : World) (p i : Int) : Calls Try.prog 22 #[.pointer none, .int .i64 p, .int .i64 i] w fun e w' => e = .returned (.tuple #[.int .i64 0, .int .i64 2]) ∧ w = w' := by
  go_enter Try.func22, Try.ntmps22
  go_wp2_with (go_at_call 29; refine (find_nil _ _ _).mono ?_; rintro e w' ⟨rfl, rfl⟩)
  go_ret2
  exact ⟨rfl, rfl⟩
set_option maxHeartbeats 400000 in
theorem move_nil (w : World) (p i a : Int) : Calls Try.prog 24 #[.pointer none, .int .i64 p, .int .i64 i, .int .i64 a] w fun e w' => e = .returned (.int .i64 2) ∧ w = w' := by
  go_enter Try.func24, Try.ntmps24
  go_wp2_with (go_at_call 29; refine (find_nil _ _ _).mono ?_; rintro e w' ⟨rfl, rfl⟩)
  go_ret
  exact ⟨rfl, rfl⟩
set_option maxHeartbeats 400000 in
theorem fd_nil (w : World) (p i : Int) : Calls Try.prog 14 #[.pointer none, .int .i64 p, .int .i64 i] w fun e w' => e = .returned (.tuple #[.agg #[.int .i64 0, .int .i64 0], .int .i64 2]) ∧ Below w.heap.size w w' := by
  go_enter Try.func14, Try.ntmps14
  go_wp2_with (go_at_call 29; refine (find_nil _ _ _).mono ?_; rintro e w' ⟨rfl, rfl⟩)
  exact bodyPost_ret (v := .tuple #[.agg #[.int .i64 0, .int .i64 0], .int .i64 2]) (by simp [results, Try.results14, go_sem]) rfl ⟨rfl, (Below.refl _ _).alloc (Nat.le_refl _) _⟩
theorem why_bool {t : Tb} {p fd : Int} (hx : t.at_ p fd = none) : (t.why p fd == 0) = false ∧ (!t.why p fd == 0) = true := by
  rcases at_none hx with ⟨-, h2⟩ | ⟨h2, -⟩ <;> rw [h2] <;> decide
set_option maxHeartbeats 400000 in
theorem move_any (h : TabG b t G w) (hP : ∀ i, P i ↔ ftG b G i) (hbd : Bd P w) (ht : t.Ok) (p fd a : Int) :
    Calls Try.prog 24 #[.pointer (some ⟨b, 0, none⟩), .int .i64 p, .int .i64 fd, .int .i64 a] w fun e w' => e = .returned (.int .i64 (moveA t p fd a).1) ∧ Nx (TabA b (moveA t p fd a).2) P w w' := by
  have same : Nx (TabA b t) P w w := Nx.same ⟨G, h, hP⟩ hbd
  cases hx : t.at_ p fd with
  | none =>
    have e1 : moveA t p fd a = (t.why p fd, t) := by simp [moveA, hx]
    rw [e1]
    have hw := why_bool hx
    have hF : ∀ u, u = w → _ := fun u hu => hu ▸ find_no h ht hx
    have HF := Lib.hid hF
    obtain ⟨y, hy⟩ : ∃ y, y = t.why p fd := ⟨_, rfl⟩
    rw [← hy] at hw HF ⊢
    obtain ⟨hw1, hw2⟩ := hw
    clear e1 hx hF hy
    go_enter Try.func24, Try.ntmps24
    go_wp2_with (go_at_call 29; refine (HF.out _ rfl).mono ?_; rintro e w' ⟨rfl, rfl⟩)
    go_ret
    exact ⟨rfl, same⟩
  | some x =>
    obtain ⟨q, k, rfl, rfl, hq, hk, h2, h3⟩ := at_some hx
    have h8 : q < 8 := by have := ht.hi; omega
    obtain ⟨g, hg, hB⟩ := h.ptr (by omega) h2
    have HF := Lib.hid (find_yes h ht hq hk hg)
    cases ha : plB a
    · have e1 : moveA t (q : Int) (k : Int) a = (1, t) := by simp [moveA, hx, ha]
      rw [e1]
      have hi2 : a < 0 ∨ (0 ≤ a ∧ 3840 < a) := by
        simp only [plB, Bool.and_eq_false_iff, decide_eq_false_iff_not] at ha
        omega
      clear e1 hx h2 h3 hg ha
      rcases hi2 with h5 | ⟨h5, h6⟩
      · go_enter Try.func24, Try.ntmps24
        go_wp2_with (go_at_call 29; refine HF.out.mono ?_; rintro e w' ⟨rfl, rfl⟩)
        go_ret
        exact ⟨rfl, same⟩
      · have h7 : ¬ a < 0 := by omega
        go_enter Try.func24, Try.ntmps24
        go_wp2_with (go_at_call 29; refine HF.out.mono ?_; rintro e w' ⟨rfl, rfl⟩)
        go_ret
        exact ⟨rfl, same⟩
    · have e1 : moveA t (q : Int) (k : Int) a = (0, { t with fil := upd t.fil (q * 8 + k) (some (x.1, a)) }) := by simp [moveA, hx, ha, h3]
      rw [e1]
      have hi2 : 0 ≤ a ∧ a ≤ 3840 := by simpa [plB] using ha
      obtain ⟨hi3, hi4⟩ := hi2
      have hi5 : ¬ (a < 0) := by omega
      have hi6 : ¬ (3840 < a) := by omega
      have Hr := Lib.hid (tab_move h hP (k := q * 8 + k) (by omega) hg h2 a)
      have c1 : w.cell? ⟨g, 1, none⟩ = some (.int .i64 x.2) := hB.cell 1
      have hfz := hB.frozen 1
      clear e1 hx h2 h3 hg ha
      go_enter Try.func24, Try.ntmps24
      go_wp2_with (go_at_call 29; refine HF.out.mono ?_; rintro e w' ⟨rfl, rfl⟩)
      go_ret
      exact ⟨rfl, Hr.out⟩
set_option maxHeartbeats 400000 in
theorem fd_any (h : TabG b t G w) (ht : t.Ok) (p fd : Int) :
    Calls Try.prog 14 #[.pointer (some ⟨b, 0, none⟩), .int .i64 p, .int .i64 fd] w fun e w' => e = .returned (.tuple #[.agg #[.int .i64 (fdA t p fd).1.1, .int .i64 (fdA t p fd).1.2], .int .i64 (fdA t p fd).2]) ∧ Below w.heap.size w w' := by
  have hA := (Below.refl w.heap.size w).alloc (Nat.le_refl _) (.cells #[.int .i64 0, .int .i64 0] 40)
  have h' : TabG b t G (w.alloc (.cells #[.int .i64 0, .int .i64 0] 40)) := h.keep fun i hi => hA.block i (h.lt hi)
  cases hx : t.at_ p fd with
  | none =>
    have e1 : fdA t p fd = ((0, 0), t.why p fd) := by simp [fdA, hx]
    rw [e1]
    have hw := why_bool hx
    have HF := Lib.hid (find_no h' ht hx)
    obtain ⟨y, hy⟩ : ∃ y, y = t.why p fd := ⟨_, rfl⟩
    rw [← hy] at hw HF ⊢
    obtain ⟨hw1, hw2⟩ := hw
    clear e1 hx hy h h'
    go_enter Try.func14, Try.ntmps14
    go_wp2_with (go_at_call 29; refine HF.out.mono ?_; rintro e w' ⟨rfl, rfl⟩)
    exact bodyPost_ret (v := .tuple #[.agg #[.int .i64 0, .int .i64 0], .int .i64 y]) (by simp [results, Try.results14, go_sem]) rfl ⟨rfl, (Below.refl _ _).alloc (Nat.le_refl _) _⟩
  | some x =>
    obtain ⟨q, k, rfl, rfl, hq, hk, h2, h3⟩ := at_some hx
    have e1 : fdA t (q : Int) (k : Int) = (x, 0) := by simp [fdA, hx]
    rw [e1]
    have h8 : q < 8 := by have := ht.hi; omega
    obtain ⟨g, hg, hB⟩ := h.ptr (by omega) h2
    have HF := Lib.hid (find_yes h' ht hq hk hg)
    have c0 : w.cell? ⟨g, 0, none⟩ = some (.int .i64 x.1) := hB.cell 0
    have c1 : w.cell? ⟨g, 1, none⟩ = some (.int .i64 x.2) := hB.cell 1
    have hgl := hB.lt
    have hne : g ≠ w.heap.size := by omega
    clear e1 hx h2 h3 hg h h'
    go_enter Try.func14, Try.ntmps14
    go_wp2_with (go_at_call 29; refine HF.out.mono ?_; rintro e w' ⟨rfl, rfl⟩)
    exact bodyPost_ret (v := .tuple #[.agg #[.int .i64 x.1, .int .i64 x.2], .int .i64 0]) (by simp [results, Try.results14, go_sem]) rfl ⟨rfl, (Below.refl _ _).alloc (Nat.le_refl _) _⟩
end
end Go.Proofs.Ytnahccdjeilboaa.Prc
