/-
  How many hold an inode: the program's answer.
  No condition is set.
-/
import Derived.Test.YtnahccdjeilboaaWh
namespace Go.Proofs.Ytnahccdjeilboaa.Prc
open Go.RowKit Apart
attribute [local go_sem ↓] Go.wp_at_zero Go.wp_at_succ

theorem size70 : (Try.prog.info? 70).map (·.size) = some 64 := by kernel_rfl
theorem size69 : (Try.prog.info? 69).map (·.size) = some 8 := by kernel_rfl
def ptrL (G : Nat → Option Nat) (o n : Nat) : List Value := (List.range n).map fun k => ptrV (G (o + k))
theorem ptrL_len (G : Nat → Option Nat) (o n : Nat) : (ptrL G o n).length = n := by simp [ptrL]
theorem ptrL_get (G : Nat → Option Nat) (o n : Nat) {k : Nat} (hk : k < n) : (ptrL G o n)[k]? = some (ptrV (G (o + k))) := by
  unfold ptrL
  rw [List.getElem?_map, List.getElem?_range hk]
  rfl
theorem run_index70 (w : World) (L M : List Value) {q : Nat} (hq : q < 8) (hM : M = (L.drop (q * 8)).take 8) : (Instr.index 70 (.agg L.toArray) (.int .i64 (q : Int))).run Try.prog w = .ok (.agg M.toArray) w := by
  rw [hM]
  simp [Instr.index, asIntOf, run_underlying Try.underlying70, part]
  intro h
  omega
theorem run_index69 (w : World) (L : List Value) (v : Value) {q : Nat} (hq : q < 8) (hv : L[q]? = some v) : (Instr.index 69 (.agg L.toArray) (.int .i64 (q : Int))).run Try.prog w = .ok v w := by
  simp [Instr.index, asIntOf, run_underlying Try.underlying69, part, hv]
  intro h
  omega
theorem ptrL_part (G : Nat → Option Nat) {q : Nat} (hq : q < 8) : ptrL G (q * 8) 8 = ((ptrL G 0 64).drop (q * 8)).take 8 := by
  apply List.ext_getElem?
  intro k
  rw [List.getElem?_take]
  by_cases hk : k < 8
  · rw [if_pos hk, List.getElem?_drop, ptrL_get _ _ _ hk, ptrL_get _ _ _ (by omega), Nat.zero_add]
  · rw [if_neg hk, List.getElem?_eq_none (by rw [ptrL_len]; omega)]
section
variable {w : World} {b : Nat} {t : Tb} {G : Nat → Option Nat} {P : Nat → Prop}
theorem TabG.range (h : TabG b t G w) : w.rangeAt b 9 (ptrL G 0 64) := fun j v hj => by
  have hj2 : j < 64 := by
    have := (List.getElem?_eq_some_iff.1 hj).1
    rwa [ptrL_len] at this
  rw [ptrL_get G 0 64 hj2, Nat.zero_add] at hj
  cases hj
  exact h.cf hj2
set_option maxRecDepth 100000 in
set_option maxHeartbeats 1600000 in
theorem holds_any (h : TabG b t G w) (i : Int) : Calls Try.prog 17 #[.pointer (some ⟨b, 0, none⟩), .int .i64 i] w fun e w' => e = .returned (.int .i64 (holdsA t i : Int)) ∧ Below w.heap.size w w' := by
  unfold holdsA
  have hr := h.range
  obtain ⟨L, hL⟩ : ∃ L, L = ptrL G 0 64 := ⟨_, rfl⟩
  have hl : L.length = 64 := by rw [hL, ptrL_len]
  rw [← hL] at hr
  have HL := Lib.hid hL
  have Hl := Lib.hid hl
  clear hL hl
  go_enter Try.func17, Try.ntmps17
  go_wp2_with (refine wpList_load_mid rfl 70 (.tmp 14) rfl b 9 rfl L _ hr Try.underlying70 rfl (by rw [size70, Hl.out]) ?_)
  go_loopw [5, 16] (fun c p wr => ∃ q : Nat, q ≤ 8 ∧ p = .int .i64 (q : Int) ∧ c = .int .i64 (cnt t i (q * 8) : Int) ∧ Below w.heap.size w wr) (fun _ p _ => 8 - (intOf p).toNat)
  case atStart => exact ⟨0, Nat.zero_le _, rfl, rfl, Below.refl _ _⟩
  case round =>
    obtain ⟨q, hq, rfl, rfl, hB⟩ := hrel
    by_cases hlt : q < 8
    · have hlt2 : (q : Int) < 8 := by omega
      obtain ⟨M, hM⟩ : ∃ M, M = ptrL G (q * 8) 8 := ⟨_, rfl⟩
      have hM2 : M = (L.drop (q * 8)).take 8 := by rw [hM, HL.out, ptrL_part G hlt]
      have hMl : M.length = 8 := by rw [hM, ptrL_len]
      have hx := run_index70 wr L M hlt hM2
      have hst : (storeCells ⟨wr.heap.size, 0, none⟩ M 0).run Try.prog (wr.alloc (.cells #[.pointer none, .pointer none, .pointer none, .pointer none, .pointer none, .pointer none, .pointer none, .pointer none] 69)) = .ok () (wr.alloc (.cells M.toArray 69)) := by
        simpa using run_storeCells_new (P := Try.prog) wr 69 _ M.toArray (by rw [size69]; simp [hMl]) (by simp [hMl]) (all_oneCell_toArray (by
          intro u hu
          rw [hM] at hu
          simp only [ptrL, List.mem_map] at hu
          obtain ⟨k, -, rfl⟩ := hu
          rfl))
      have hrg : (wr.alloc (.cells M.toArray 69)).rangeAt wr.heap.size 0 M := fun j v hj => by
        rw [Nat.zero_add, Bk.cell (Bk.new wr 69 M) j, hj]
      have HM := Lib.hid hM
      have HMl := Lib.hid hMl
      clear hM hM2 hMl
      go_wp2_with (refine wpList_load_mid rfl 69 (.tmp 7) rfl wr.heap.size 0 rfl M _ hrg Try.underlying69 rfl (by rw [size69, HMl.out]) ?_)
      have hB2 : Below w.heap.size w (wr.alloc (.cells M.toArray 69)) := hB.trans (((Below.refl _ wr).alloc (Nat.le_refl _) _).mono hB.size)
      have h2 : TabG b t G (wr.alloc (.cells M.toArray 69)) := h.keep fun k hk => hB2.block k (h.lt hk)
      clear hst hrg hx hr
      generalize wr.alloc (.cells M.toArray 69) = w2 at *
      have H2 := Lib.hid h2
      have HB := Lib.hid hB2
      clear h2 hB2
      go_loop [5, 20] (fun c k => ∃ j : Nat, j ≤ 8 ∧ k = .int .i64 (j : Int) ∧ c = .int .i64 (cnt t i (q * 8 + j) : Int)) (fun _ k => 8 - (intOf k).toNat)
      case atStart => exact ⟨0, Nat.zero_le _, rfl, rfl⟩
      case round =>
        obtain ⟨j, hj, rfl, rfl⟩ := hrel
        by_cases h8 : j < 8
        · have h82 : (j : Int) < 8 := by omega
          have hle := cnt_le t i (q * 8 + j)
          have hv : M[j]? = some (ptrV (G (q * 8 + j))) := by rw [HM.out, ptrL_get _ _ _ h8]
          cases hf : t.fil (q * 8 + j) with
          | none =>
            rw [H2.out.nil (by omega) hf] at hv
            simp only [ptrV, Option.map_none] at hv
            have hi := run_index69 w2 M _ h8 hv
            have HC := Lib.hid (cnt_none (i := i) hf)
            clear hf hv
            go_wp2
            go_round
            case rel => exact ⟨j + 1, by omega, by go_num, by rw [← Nat.add_assoc, HC.out]⟩
            case measure => simp [intOf]; omega
          | some x =>
            obtain ⟨g, hg, hK⟩ := H2.out.ptr (by omega) hf
            rw [hg] at hv
            simp only [ptrV, Option.map_some] at hv
            have hi := run_index69 w2 M _ h8 hv
            obtain ⟨x1, x2⟩ := x
            have hin : w2.cell? ⟨g, 0, none⟩ = some (.int .i64 x1) := hK.cell 0
            clear hg hK hv
            by_cases hx : x1 = i
            · subst hx
              have HC := Lib.hid (cnt_yes hf)
              clear hf
              generalize cnt t x1 (q * 8 + j) = c at *
              go_wp2
              go_round
              case rel => exact ⟨j + 1, by omega, by go_num, by rw [← Nat.add_assoc, HC.out]; go_num⟩
              case measure => simp [intOf]; omega
            · have HC := Lib.hid (cnt_no (i := i) hf hx)
              clear hf
              go_wp2
              go_round
              case rel => exact ⟨j + 1, by omega, by go_num, by rw [← Nat.add_assoc, HC.out]⟩
              case measure => simp [intOf]; omega
        · obtain rfl : j = 8 := by omega
          go_wp2
          go_roundw
          case rel => exact ⟨q + 1, by omega, by go_num, by rw [Nat.add_mul, Nat.one_mul], HB.out⟩
          case measure => simp [intOf]; omega
    · obtain rfl : q = 8 := by omega
      go_wp2
      go_ret
      exact ⟨rfl, hB⟩
end
end Go.Proofs.Ytnahccdjeilboaa.Prc
