/-
  Copies of slices of bytes that the program's own library makes (Clone, Grow of nil, Concat): what each call returns.
-/
import Derived.Test.YtcedpmakomhigaaS1
import Derived.Lib.AppendZeros
import Derived.Deep.DeepAppendRoom
namespace Go.Proofs.Ytcedpmakomhigaa
open Go.RowKit

theorem run_grow (n : Nat) (w : World) (ty : TypeId) (h0 : 0 < n) (hm : n ≤ 140737488355328) :
    ∃ c' w', (Builtin.append_ #[35, 3] ty #[.slice none 0 0, .int .i64 n]).run Try.prog w = .ok (.slice (some ⟨w.heap.size, 0, none⟩) n c') w' ∧ n ≤ c' ∧ c' ≤ maxLen ∧
      w'.ownsRow w.heap.size 5 1 (.slice (some ⟨w.heap.size, 0, none⟩) 0 c') 0 [] ∧ Below w.heap.size w w' := by
  obtain ⟨i0, hi, hz0, hz1, hz2⟩ := info_parts info5
  have hc := grownCap_ge w n 0 5
  have hcm := grownCap_le_maxLen w n 0 5 (by simp only [maxLen]; omega)
  refine ⟨_, _, Lib.run_append_nil_zeros w 35 3 ty 5 i0 _ .i64 .i64 Try.underlying35 Try.underlying3 hi hz0 n h0 (by omega) (by omega) (by rw [hz2]; omega), hc, hcm, ?_, ?_⟩
  · exact World.ownsRow_made w.drew _ _ (Nat.le_refl _) hcm (by simp [Builtin.zeroCells, Value.cells]; omega)
  · exact (Below.refl _ _).drew.alloc (Nat.le_refl _) _

set_option maxRecDepth 100000 in
theorem grow_none (n : Nat) (w : World) (hm : n ≤ 140737488355328) :
    Calls Try.prog 37 #[.slice none 0 0, .int .i64 n] w fun e w' => ∃ v, e = .returned v ∧ w'.ownsRow w.heap.size 5 1 v 0 [] ∧ Below w.heap.size w w' := by
  by_cases h0 : 0 < n
  · obtain ⟨c', w1, hrun, hc1, hc2, hown, hbel⟩ := run_grow n w 35 h0 hm
    unfold maxLen at hc2
    go_enter Try.func37, Try.ntmps37
    go_wp2_with (at_builtin; refine Lib.wpList_append_run _ rfl _ _ _ _ rfl _ _ rfl rfl _ _ hrun ?_)
    go_ret
    exact ⟨_, rfl, hown, hbel⟩
  · obtain rfl : n = 0 := by omega
    go_enter Try.func37, Try.ntmps37
    go_wp2
    go_ret
    exact ⟨_, rfl, World.ownsRow_nil _ _ _ _, Below.refl _ _⟩

/-- A slice of bytes as it lies: its value, and what it holds. -/
def Part (w : World) (p : Value × List UInt8) : Prop := ∃ A n c, p.1 = .slice A n c ∧ p.2.length = n ∧ n ≤ c ∧ Rd w w.heap.size A (bytesV p.2)
def total (ps : List (Value × List UInt8)) : List UInt8 := ps.flatMap (·.2)
theorem total_snoc (ps : List (Value × List UInt8)) (k : Nat) (p : Value × List UInt8) (h : ps[k]? = some p) : total (ps.take (k + 1)) = total (ps.take k) ++ p.2 := by
  obtain ⟨hk, rfl⟩ := List.getElem?_eq_some_iff.1 h
  rw [List.take_succ_eq_append_getElem hk, total, List.flatMap_append]
  simp [total]
theorem total_le (ps : List (Value × List UInt8)) (k : Nat) : (total (ps.take k)).length ≤ (total ps).length := by
  have : total ps = total (ps.take k) ++ total (ps.drop k) := by
    unfold total; rw [← List.flatMap_append, List.take_append_drop]
  rw [this, List.length_append]; omega

set_option maxHeartbeats 400000 in
theorem concat_any (ps : List (Value × List UInt8)) (A : Option Addr) (m c : Nat) (w : World) (hlen : ps.length = m) (hr : Rd w w.heap.size A (ps.map (·.1))) (hp : ∀ p ∈ ps, Part w p)
    (ht : (total ps).length ≤ 140737488355328) (hm : m ≤ 9223372036854775807) :
    Calls Try.prog 25 #[.slice A m c] w fun e w' => ∃ v, e = .returned v ∧ w'.ownsRow w.heap.size 5 1 v (total ps).length (bytesV (total ps)) ∧ Below w.heap.size w w' := by
  have hcells : ∀ k, k < m → ∃ (p : Value × List UInt8) (b o : Nat) (A' : Option Addr) (n' c' : Nat), A = some ⟨b, o, none⟩ ∧ b < w.heap.size ∧ ps[k]? = some p ∧ w.cell? ⟨b, o + k, none⟩ = some (.slice A' n' c') ∧ p.2.length = n' ∧ n' ≤ c' ∧ Rd w w.heap.size A' (bytesV p.2) := fun k hk => by
    have hkl : k < ps.length := by omega
    obtain ⟨A', n', c', h1, h2, h3, h4⟩ := hp ps[k] (List.getElem_mem hkl)
    rcases hr with h | ⟨b, o, rfl, hb, hc⟩
    · exfalso; have := congrArg List.length h; simp at this; simp [this] at hkl
    · exact ⟨ps[k], b, o, A', n', c', rfl, hb, List.getElem?_eq_getElem hkl, by rw [← h1]; exact hc k _ (by simp [hkl]), h2, h3, h4⟩
  have Hc := Lib.hid hcells
  have Hl := Lib.hid hlen
  have Ht := Lib.hid (fun k => total_le ps k)
  clear hcells hlen hp hr
  go_enter Try.func25, Try.ntmps25
  go_wp2
  go_loop [3, 11] (fun x i => ∃ k : Nat, k ≤ m ∧ i = .int .i64 k ∧ x = .int .i64 ((total (ps.take k)).length : Nat)) (fun _ i => m - (intOf i).toNat)
  case atStart => exact ⟨0, Nat.zero_le _, rfl, rfl⟩
  case round =>
    obtain ⟨k, hk, rfl, rfl⟩ := hrel
    have hle := Ht.out k
    by_cases hlt : k < m
    · obtain ⟨p, b, o, A', n', c', rfl, hb, hx, hcell, hn', hcap, hrp⟩ := Hc.out k hlt
      have hts := total_snoc ps k p hx
      have hle1 := Ht.out (k + 1)
      have hsum : (total (ps.take (k + 1))).length = (total (ps.take k)).length + n' := by rw [hts, List.length_append, hn']
      have Hs := Lib.hid hsum
      have hn1 : (total (ps.take k)).length + n' ≤ (total ps).length := by omega
      clear hsum hts hx hn' hle1
      go_wp2
      go_round
      case rel => exact ⟨k + 1, hlt, by go_num, by rw [Hs.out]; go_num⟩
      case measure => simp [intOf]; omega
    · obtain rfl : k = m := by omega
      go_wp2_with (go_at_call 37; refine (grow_none (total (ps.take k)).length _ (by omega)).mono ?_; rintro e w1 ⟨v, rfl, hown, hb1⟩)
      have hown0 : w1.ownsRow w.heap.size 5 1 v (total (ps.take 0)).length (bytesV (total (ps.take 0))) := hown
      clear hown
      obtain ⟨wo, rfl⟩ : ∃ wo : World, wo = w := ⟨_, rfl⟩
      go_loopw [6, 27] (fun x i wr => ∃ j : Nat, j ≤ k ∧ i = .int .i64 j ∧ wr.ownsRow wo.heap.size 5 1 x (total (ps.take j)).length (bytesV (total (ps.take j))) ∧ Below wo.heap.size wo wr) (fun _ i _ => k - (intOf i).toNat)
      case atStart => exact ⟨0, Nat.zero_le _, rfl, hown0, hb1⟩
      case round =>
        obtain ⟨j, hj, rfl, hown, hbel⟩ := hrel
        by_cases hlt2 : j < k
        · obtain ⟨p, b, o, A', n', c', rfl, hb, hx, hcell, hn', hcap, hrp⟩ := Hc.out j hlt2
          have hts := total_snoc ps j p hx
          have hle1 := Ht.out (j + 1)
          have hsum : (total (ps.take (j + 1))).length = (total (ps.take j)).length + n' := by rw [hts, List.length_append, hn']
          have Hts := Lib.hid hts
          have Hs := Lib.hid hsum
          have Hn := Lib.hid hn'
          have hcell1 := (hbel.cell (p := ⟨b, o + j, none⟩) hb).trans hcell
          have hrp1 := hrp.below hbel
          have hsz := hbel.size
          have hn1 : (total (ps.take j)).length + n' ≤ 140737488355328 := by omega
          clear hsum hts hx hn' hle1 hcell hrp
          go_wp2_with (at_builtin; refine wpList_app5 _ rfl (.tmp 31) (.tmp 32) rfl wo.heap.size _ (total (ps.take j)).length (total (ps.take j)) rfl hown wo.heap.size A' n' c' p.2 rfl Hn.out hrp1 (by omega) hsz ?_; intro v2 w2 hown2 hgrow2)
          go_roundw
          case rel => exact ⟨j + 1, hlt2, by go_num, by rw [Hs.out, Hts.out]; exact hown2, hbel.grown hgrow2 (by omega) (fun g hg => (hown.lt g hg).1)⟩
          case measure => simp [intOf]; omega
        · obtain rfl : j = k := by omega
          go_wp2
          go_ret
          rw [List.take_of_length_le (by rw [Hl.out]; omega)] at hown
          exact ⟨_, rfl, hown, hbel⟩
end Go.Proofs.Ytcedpmakomhigaa
