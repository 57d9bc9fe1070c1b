/-
  What the document's calls on a table of processes answer, and what they make of it: Open, Close, Fd, Move.
  No condition is set.
-/
import Derived.Test.YtnahccdjeilboaaWr
namespace Go.Proofs.Ytnahccdjeilboaa.Prc
open Go.RowKit Apart
attribute [local go_sem ↓] Go.wp_at_zero Go.wp_at_succ

section
variable {w : World} {b r : Nat} {t : Tb} {P : Nat → Prop}
theorem RefG.on (h : RefG b r t w) {q k : Nat} (hq : q < t.n) (hk : k < 8) : w.cell? ⟨r, q * 25 + 1 + k * 3, none⟩ = some (.bool (t.fil (q * 8 + k)).isSome) := by
  have h1 := h.sl hq hk (j := 0) (by omega)
  rw [Nat.add_zero] at h1
  rw [h1]
  rfl
theorem RefG.ino (h : RefG b r t w) {q k : Nat} (hq : q < t.n) (hk : k < 8) {x : Int × Int} (hx : t.fil (q * 8 + k) = some x) : w.cell? ⟨r, q * 25 + 1 + k * 3 + 1, none⟩ = some (.int .i64 x.1) := by
  rw [h.sl hq hk (j := 1) (by omega), hx]
  rfl
theorem RefG.pl (h : RefG b r t w) {q k : Nat} (hq : q < t.n) (hk : k < 8) {x : Int × Int} (hx : t.fil (q * 8 + k) = some x) : w.cell? ⟨r, q * 25 + 1 + k * 3 + 2, none⟩ = some (.int .i64 x.2) := by
  rw [h.sl hq hk (j := 2) (by omega), hx]
  rfl

set_option maxHeartbeats 1600000 in
theorem ropen_any (h : RefG b r t w) (hP : ∀ i, P i ↔ (i = b ∨ i = r)) (hbd : Bd P w) (p i : Int) :
    Calls Try.prog 26 #[.pointer (some ⟨b, 0, none⟩), .int .i64 p, .int .i64 i] w fun e w' => e = .returned (.tuple #[.int .i64 (openA t p i).1, .int .i64 (openA t p i).2.1]) ∧ Nx (RefA b r (openA t p i).2.2) P w w' := by
  have hH := Lib.hid (rhas_any h p)
  have hc := h.c0
  have same : Nx (RefA b r t) P w w := Nx.same ⟨h, hP⟩ hbd
  cases hb : hasB t.n p
  · have e1 : openA t p i = (0, 1, t) := by simp [openA, hb]
    rw [e1]
    rw [hb] at hH
    clear e1 hb
    go_enter Try.func26, Try.ntmps26
    go_wp2_with (go_at_call 19; refine hH.out.mono ?_; rintro e w' ⟨rfl, rfl⟩)
    go_ret2
    exact ⟨rfl, same⟩
  · rw [hb] at hH
    obtain ⟨q, rfl, hq⟩ := has_nat hb
    have hq2 : (q : Int) < (t.n : Int) := by omega
    cases hi : inoB i
    · have e1 : openA t (q : Int) i = (0, 1, t) := by simp [openA, hi]
      rw [e1]
      have hi2 : i < 0 ∨ (0 ≤ i ∧ 64 ≤ i) := by
        simp only [inoB, Bool.and_eq_false_iff, decide_eq_false_iff_not] at hi
        omega
      clear e1 hb hi
      rcases hi2 with h5 | ⟨h5, h6⟩
      · go_enter Try.func26, Try.ntmps26
        go_wp2_with (go_at_call 19; refine hH.out.mono ?_; rintro e w' ⟨rfl, rfl⟩)
        go_ret2
        exact ⟨rfl, same⟩
      · have h7 : ¬ i < 0 := by omega
        go_enter Try.func26, Try.ntmps26
        go_wp2_with (go_at_call 19; refine hH.out.mono ?_; rintro e w' ⟨rfl, rfl⟩)
        go_ret2
        exact ⟨rfl, same⟩
    · have hi2 : 0 ≤ i ∧ i < 64 := by simpa [inoB] using hi
      obtain ⟨hi3, hi4⟩ := hi2
      have hi5 : ¬ (64 ≤ i) := by omega
      have hi6 : ¬ (i < 0) := by omega
      have hle := low_le t.fil (q * 8)
      have hlt := fun i (hi : i < low t.fil (q * 8)) => low_lt hi
      have hat := fun (hi : low t.fil (q * 8) < 8) => low_at hi
      have e5 : ¬ low t.fil (q * 8) < 8 → openA t (q : Int) i = (0, 5, t) := fun hlo => by simp [openA, hb, hi, hlo]
      have e0 : low t.fil (q * 8) < 8 → openA t (q : Int) i = ((low t.fil (q * 8) : Int), 0, { t with fil := upd t.fil (q * 8 + low t.fil (q * 8)) (some (i, 0)) }) := fun hlo => by simp [openA, hb, hi, hlo]
      generalize low t.fil (q * 8) = L at *
      have hon := fun k (hk : k < 8) => h.on hq hk
      have Hr := Lib.hid (fun (hL : L < 8) => ref_slot h hP hq hL (some (i, 0)))
      have HE5 := Lib.hid e5
      have HE0 := Lib.hid e0
      have HL := Lib.hid hlt
      have HA := Lib.hid hat
      have HO := Lib.hid hon
      have Same := Lib.hid same
      have HO1 := Lib.hid (fun k (hk : k < 8) => h.sl hq hk (j := 1) (by omega))
      have HO2 := Lib.hid (fun k (hk : k < 8) => h.sl hq hk (j := 2) (by omega))
      have hfz := h.row.frozen
      have HFz := Lib.hid hfz
      have hne := h.ne
      have hne2 : r ≠ b := Ne.symm hne
      clear hb hi e5 e0 hlt hat hon same hfz
      obtain ⟨y, hy⟩ : ∃ y, y = openA t (q : Int) i := ⟨_, rfl⟩
      rw [← hy] at HE5 HE0 ⊢
      have HY := Lib.hid hy
      clear hy
      generalize hn : t.n = n at *
      have Hn := Lib.hid hn
      clear hn
      go_enter Try.func26, Try.ntmps26
      go_wp2_with (go_at_call 19; refine hH.out.mono ?_; rintro e w' ⟨rfl, rfl⟩)
      go_loop [8] (fun v => ∃ j : Nat, j ≤ L ∧ v = .int .i64 (j : Int)) (fun v => 8 - (intOf v).toNat)
      case atStart => exact ⟨0, Nat.zero_le _, rfl⟩
      case round =>
        obtain ⟨j, hj, rfl⟩ := hrel
        by_cases h8 : j < 8
        · have hj8 : (j : Int) < 8 := by omega
          have hcj := HO.out j h8
          by_cases hjl : j < L
          · rw [Option.isSome_iff_ne_none.2 (HL.out j hjl)] at hcj
            go_wp2
            go_round
            case rel => exact ⟨j + 1, by omega, by go_num⟩
            case measure => simp [intOf]; omega
          · obtain rfl : j = L := by omega
            rw [HA.out h8] at hcj
            simp only [Option.isSome_none] at hcj
            have y1 := HO1.out j h8
            have y2 := HO2.out j h8
            have z0 := HFz.out (q * 25 + 1 + j * 3)
            have z1 := HFz.out (q * 25 + 1 + j * 3 + 1)
            have z2 := HFz.out (q * 25 + 1 + j * 3 + 2)
            go_wp2
            go_ret2
            rw [HE0.out h8]
            exact ⟨rfl, Hr.out h8⟩
        · obtain rfl : j = 8 := by omega
          go_wp2
          go_ret2
          rw [HE5.out (by omega)]
          exact ⟨rfl, Same.out⟩
end
end Go.Proofs.Ytnahccdjeilboaa.Prc
