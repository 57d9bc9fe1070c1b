/-
  Package field's and the document's own Lay, Take and Fill: what each call returns, and what it leaves.
-/
import Derived.Test.YtahpdnfnaimbnaaW1
namespace Go.Proofs.Ytahpdnfnaimbnaa
open Go.RowKit

/-- What stands in the new block while numbers are laid. -/
def Laying (w : World) (g size : Nat) (L : List Nat) (j : Nat) (wr : World) : Prop := Bk wr g 5 (bytesV (filled size L j)) ∧ w.grownBy wr (some g)

theorem only_trans {a b c : World} {g : Nat} (h : a.grownBy b (some g)) (k : b.grownBy c (some g)) : a.grownBy c (some g) :=
  ⟨k.os.trans h.os, k.tape.trans h.tape, k.output.trans h.output, Nat.le_trans h.size k.size, fun i hi hne => (k.block i (Nat.lt_of_lt_of_le hi h.size) hne).trans (h.block i hi hne)⟩

theorem laying_step {w wr w' : World} {g size : Nat} {L : List Nat} {j : Nat} (hj : j < L.length) (h : Laying w g size L j wr) (h' : Storing wr g (filled size L j) (j * size) L[j] size w') :
    Laying w g size L (j + 1) w' := by
  refine ⟨?_, only_trans h.2 h'.2⟩
  have := h'.1
  rw [filled_step size L j hj] at this
  exact this

theorem rd_grown {w w' : World} {B : Nat} {A : Option Addr} {xs : List Value} {g : Nat} (h : Rd w B A xs) (hb : w.grownBy w' (some g)) (hB : B ≤ w.heap.size) (hg : B ≤ g) : Rd w' B A xs :=
  h.keep fun p hp => World.cell?_of_block (hb.block p.block (by omega) (by intro e; injection e; omega))

set_option maxHeartbeats 400000 in
theorem lay_ok (L : List Nat) (A : Option Addr) (n c size : Nat) (w : World) (hn : L.length = n) (hr : Rd w w.heap.size A (numsV L)) (hs8 : size ≤ 8) (hs1 : 1 ≤ size) (hL : ∀ x ∈ L, x < 18446744073709551616)
    (hf : ∀ x ∈ L, fitB x size = true) (hm : n * size ≤ 4096) :
    Calls Try.prog 40 #[.int .i64 size, .slice A n c] w fun e w' => ∃ v, e = .returned (.tuple #[v, .int .i64 0]) ∧ Made w (layl size L) v w' := by
  have hq : ¬ ((4096 : Int) / (size : Int) < (n : Int)) := by
    have : (n : Int) ≤ 4096 / (size : Int) := Int.le_ediv_of_mul_le (by omega) (by omega)
    omega
  have hmi : (n : Int) * (size : Int) ≤ 4096 := by omega
  have hn4 : n ≤ 4096 := Nat.le_trans (Nat.le_mul_of_pos_right n (by omega)) hm
  have hmk : ∀ u : World, (Instr.makeSlice 25 (.int .i64 ((n : Int) * (size : Int))) (.int .i64 ((n : Int) * (size : Int)))).run Try.prog u =
    .ok (.slice (some ⟨u.heap.size, 0, none⟩) (n * size) (n * size)) (u.alloc (.cells (bytesV (List.replicate (n * size) 0)).toArray 5)) := fun u => by
      have := make_bytes (n * size) (by omega) u
      rw [Int.natCast_mul] at this
      exact this
  have hbk := Bk.new w 5 (bytesV (List.replicate (n * size) 0))
  have hbel : Below w.heap.size w (w.alloc (.cells (bytesV (List.replicate (n * size) 0)).toArray 5)) := (Below.refl _ _).alloc (Nat.le_refl _) _
  have hsrc := hr.below hbel
  obtain ⟨z, hz⟩ : ∃ z, z = (bytesV (List.replicate (n * size) 0)).toArray := ⟨_, rfl⟩
  unfold Bk at hbk
  rw [← hz] at hmk hbk hbel hsrc
  have hlay : Laying (w.alloc (.cells z 5)) w.heap.size size L 0 (w.alloc (.cells z 5)) := ⟨by unfold Bk; rw [filled_zero, hn, hbk, hz], World.grownBy.refl _ _⟩
  have Hn := Lib.hid hn
  clear hn hbk hz hr
  go_enter Try.func40, Try.ntmps40
  go_wp2_with (go_at_call 43; refine (isSize_true _ _ (by omega) (by omega)).mono ?_; rintro e w' ⟨rfl, rfl⟩)
  go_loopw [24] (fun k wr => ∃ j : Nat, j ≤ n ∧ k = .int .i64 j ∧ Laying (w.alloc (.cells z 5)) w.heap.size size L j wr) (fun k _ => n - (intOf k).toNat)
  case atStart => exact ⟨0, Nat.zero_le _, rfl, hlay⟩
  case round =>
    obtain ⟨j, hj, rfl, hst⟩ := hrel
    by_cases hlt : j < n
    · have hjl : j < L.length := by have := Hn.out; omega
      have hgt : ¬ ((n : Int) ≤ j) := by omega
      rcases rd_grown hsrc hst.2 (by simp) (Nat.le_refl _) with h | ⟨b, o, rfl, hb, hc⟩
      · exfalso; have := congrArg List.length h; rw [length_numsV] at this; simp at this; simp [this] at hjl
      have hcell : wr.cell? ⟨b, o + j, none⟩ = some (.int .u64 (L[j] : Int)) := hc j _ (by simp [numsV, numV]; exact ⟨_, List.getElem?_eq_getElem _, rfl⟩)
      have Hf := Lib.hid (hf L[j] (List.getElem_mem hjl))
      have hx := hL L[j] (List.getElem_mem hjl)
      have hjm : (j : Int) * (size : Int) + size ≤ (n : Int) * (size : Int) := by
        have : (j + 1) * size ≤ n * size := Nat.mul_le_mul_right _ (by omega)
        rw [Nat.add_mul] at this
        omega
      have hj0 : 0 ≤ (j : Int) * (size : Int) := by have := Nat.zero_le (j * size); omega
      have hne : ¬ (n * size = j * size) := by omega
      have HS := Lib.hid (fun w' => laying_step (w' := w') hjl hst)
      have hb1 := hst.1
      have hlf : (filled size L j).length = n * size := by rw [length_filled _ _ _ (by omega), Hn.out]
      have Hlf := Lib.hid hlf
      obtain ⟨x, hxe⟩ : ∃ x, x = L[j] := ⟨_, rfl⟩
      rw [← hxe] at hcell Hf hx HS
      clear hc hst hlf hxe
      go_wp2_with (first
        | (go_at_call 44; refine (fits_any x size _ hx hs1 hs8).mono ?_; rintro e w' ⟨rfl, rfl⟩; rw [Hf.out])
        | (go_at_call 45; refine (store_any (filled size L j) w.heap.size (j * size) (n * size - j * size) _ size x _ hb1 (by rw [Hlf.out]; omega) (by omega) hs8).mono ?_; rintro e w2 ⟨rfl, hst⟩; have hst2 := HS.out _ hst; clear hst hb1))
      go_roundw
      case rel => exact ⟨j + 1, by omega, by go_num, hst2⟩
      case measure => simp [intOf]; omega
    · have hgt : (n : Int) ≤ j := by omega
      go_wp2
      go_ret2
      obtain rfl : j = L.length := by have := Hn.out; omega
      have hb := hst.1
      rw [filled_all] at hb
      refine ⟨_, rfl, ?_, hbel.trans (below_of_only hst.2 hbel.size (Nat.le_refl _))⟩
      rw [length_layl, Hn.out]
      exact hb.own (n * size) (by rw [length_bytesV, length_layl, Hn.out]) (Nat.le_refl _) (by simp only [maxLen]; omega)

theorem lay_arg (A : Option Addr) (n c : Nat) (size : Int) (w : World) (h : ¬ (1 ≤ size ∧ size ≤ 8)) :
    Calls Try.prog 40 #[.int .i64 size, .slice A n c] w fun e w' => e = .returned (.tuple #[.slice none 0 0, .int .i64 1]) ∧ w = w' := by
  have H := Lib.hid h
  clear h
  go_enter Try.func40, Try.ntmps40
  go_wp2_with (go_at_call 43; refine (isSize_false _ _ H.out).mono ?_; rintro e w' ⟨rfl, rfl⟩)
  go_ret2
  exact ⟨rfl, rfl⟩
theorem lay_much (A : Option Addr) (n c size : Nat) (w : World) (hs8 : size ≤ 8) (hs1 : 1 ≤ size) (hm : ¬ (n * size ≤ 4096)) :
    Calls Try.prog 40 #[.int .i64 size, .slice A n c] w fun e w' => e = .returned (.tuple #[.slice none 0 0, .int .i64 4]) ∧ w = w' := by
  have hq : (4096 : Int) / (size : Int) < (n : Int) := Int.ediv_lt_of_lt_mul (by omega) (by omega)
  clear hm
  go_enter Try.func40, Try.ntmps40
  go_wp2_with (go_at_call 43; refine (isSize_true _ _ (by omega) (by omega)).mono ?_; rintro e w' ⟨rfl, rfl⟩)
  go_ret2
  exact ⟨rfl, rfl⟩

set_option maxHeartbeats 400000 in
/-- A number that does not fit: whichever is the first. -/
theorem lay_long (L : List Nat) (A : Option Addr) (n c size : Nat) (w : World) (hn : L.length = n) (hr : Rd w w.heap.size A (numsV L)) (hs8 : size ≤ 8) (hs1 : 1 ≤ size) (hL : ∀ x ∈ L, x < 18446744073709551616)
    (hf : L.all (fitB · size) = false) (hm : n * size ≤ 4096) :
    Calls Try.prog 40 #[.int .i64 size, .slice A n c] w fun e w' => e = .returned (.tuple #[.slice none 0 0, .int .i64 4]) ∧ Below w.heap.size w w' := by
  have hq : ¬ ((4096 : Int) / (size : Int) < (n : Int)) := by
    have : (n : Int) ≤ 4096 / (size : Int) := Int.le_ediv_of_mul_le (by omega) (by omega)
    omega
  have hmi : (n : Int) * (size : Int) ≤ 4096 := by omega
  have hn4 : n ≤ 4096 := Nat.le_trans (Nat.le_mul_of_pos_right n (by omega)) hm
  have hmk : ∀ u : World, (Instr.makeSlice 25 (.int .i64 ((n : Int) * (size : Int))) (.int .i64 ((n : Int) * (size : Int)))).run Try.prog u =
    .ok (.slice (some ⟨u.heap.size, 0, none⟩) (n * size) (n * size)) (u.alloc (.cells (bytesV (List.replicate (n * size) 0)).toArray 5)) := fun u => by
      have := make_bytes (n * size) (by omega) u
      rw [Int.natCast_mul] at this
      exact this
  have hbk := Bk.new w 5 (bytesV (List.replicate (n * size) 0))
  have hbel : Below w.heap.size w (w.alloc (.cells (bytesV (List.replicate (n * size) 0)).toArray 5)) := (Below.refl _ _).alloc (Nat.le_refl _) _
  have hsrc := hr.below hbel
  obtain ⟨z, hz⟩ : ∃ z, z = (bytesV (List.replicate (n * size) 0)).toArray := ⟨_, rfl⟩
  unfold Bk at hbk
  rw [← hz] at hmk hbk hbel hsrc
  have hlay : Laying (w.alloc (.cells z 5)) w.heap.size size L 0 (w.alloc (.cells z 5)) := ⟨by unfold Bk; rw [filled_zero, hn, hbk, hz], World.grownBy.refl _ _⟩
  have Hn := Lib.hid hn
  have Hnf := Lib.hid hf
  clear hn hbk hz hr hf
  go_enter Try.func40, Try.ntmps40
  go_wp2_with (go_at_call 43; refine (isSize_true _ _ (by omega) (by omega)).mono ?_; rintro e w' ⟨rfl, rfl⟩)
  go_loopw [24] (fun k wr => ∃ j : Nat, j ≤ n ∧ k = .int .i64 j ∧ Hid ((L.take j).all (fitB · size) = true) ∧ Laying (w.alloc (.cells z 5)) w.heap.size size L j wr) (fun k _ => n - (intOf k).toNat)
  case atStart => exact ⟨0, Nat.zero_le _, rfl, (rfl : ([] : List Nat).all (fitB · size) = true), hlay⟩
  case round =>
    obtain ⟨j, hj, rfl, Hsofar, hst⟩ := hrel
    by_cases hlt : j < n
    · have hjl : j < L.length := by have := Hn.out; omega
      have hgt : ¬ ((n : Int) ≤ j) := by omega
      rcases rd_grown hsrc hst.2 (by simp) (Nat.le_refl _) with h | ⟨b, o, rfl, hb, hc⟩
      · exfalso; have := congrArg List.length h; rw [length_numsV] at this; simp at this; simp [this] at hjl
      have hcell : wr.cell? ⟨b, o + j, none⟩ = some (.int .u64 (L[j] : Int)) := hc j _ (by simp [numsV, numV]; exact ⟨_, List.getElem?_eq_getElem _, rfl⟩)
      have hx := hL L[j] (List.getElem_mem hjl)
      have hjm : (j : Int) * (size : Int) + size ≤ (n : Int) * (size : Int) := by
        have : (j + 1) * size ≤ n * size := Nat.mul_le_mul_right _ (by omega)
        rw [Nat.add_mul] at this
        omega
      have hj0 : 0 ≤ (j : Int) * (size : Int) := by have := Nat.zero_le (j * size); omega
      have hne : ¬ (n * size = j * size) := by omega
      have HS := Lib.hid (fun w' => laying_step (w' := w') hjl hst)
      have hb1 := hst.1
      have hbe := hbel.trans (below_of_only hst.2 hbel.size (Nat.le_refl _))
      have hlf : (filled size L j).length = n * size := by rw [length_filled _ _ _ (by omega), Hn.out]
      have Hlf := Lib.hid hlf
      have Hnext : Hid (fitB L[j] size = true → (L.take (j + 1)).all (fitB · size) = true) := fun h => by
        rw [List.take_succ_eq_append_getElem hjl, List.all_append, Hsofar.out]
        simpa using h
      obtain ⟨x, hxe⟩ : ∃ x, x = L[j] := ⟨_, rfl⟩
      rw [← hxe] at hcell hx HS Hnext
      clear hc hst hlf hxe
      by_cases hfx : fitB x size = true
      · have Hf := Lib.hid hfx
        clear hfx
        go_wp2_with (first
          | (go_at_call 44; refine (fits_any x size _ hx hs1 hs8).mono ?_; rintro e w' ⟨rfl, rfl⟩; rw [Hf.out])
          | (go_at_call 45; refine (store_any (filled size L j) w.heap.size (j * size) (n * size - j * size) _ size x _ hb1 (by rw [Hlf.out]; omega) (by omega) hs8).mono ?_; rintro e w2 ⟨rfl, hst⟩; have hst2 := HS.out _ hst; clear hst hb1))
        go_roundw
        case rel => exact ⟨j + 1, by omega, by go_num, Hnext.out Hf.out, hst2⟩
        case measure => simp [intOf]; omega
      · have Hf := Lib.hid (show fitB x size = false by simpa using hfx)
        clear hfx
        go_wp2_with (first
          | (go_at_call 44; refine (fits_any x size _ hx hs1 hs8).mono ?_; rintro e w' ⟨rfl, rfl⟩; rw [Hf.out]))
        go_ret2
        exact ⟨rfl, hbe⟩
    · exfalso
      obtain rfl : j = L.length := by have := Hn.out; omega
      have h1 := Hsofar.out
      have h2 := Hnf.out
      rw [List.take_length] at h1
      rw [h1] at h2
      cases h2

/-- What Lay comes to at a size that is right. -/
def LayPost (size : Nat) (L : List Nat) (w : World) (e : Ending) (w' : World) : Prop :=
  (layB size L = true → ∃ v, e = .returned (.tuple #[v, .int .i64 0]) ∧ Made w (layl size L) v w') ∧
  (layB size L = false → e = .returned (.tuple #[.slice none 0 0, .int .i64 4]) ∧ Below w.heap.size w w')

theorem lay_any (L : List Nat) (A : Option Addr) (n c size : Nat) (w : World) (hn : L.length = n) (hr : Rd w w.heap.size A (numsV L)) (hs8 : size ≤ 8) (hs1 : 1 ≤ size) (hL : ∀ x ∈ L, x < 18446744073709551616) :
    Calls Try.prog 40 #[.int .i64 size, .slice A n c] w fun e w' => LayPost size L w e w' := by
  by_cases hm : n * size ≤ 4096
  · cases hf : L.all (fitB · size) with
    | true =>
      refine (lay_ok L A n c size w hn hr hs8 hs1 hL (by simpa using hf) hm).mono fun e w' h => ⟨fun _ => h, fun h' => ?_⟩
      rw [layB, hf, hn] at h'
      simp [hm] at h'
    | false =>
      refine (lay_long L A n c size w hn hr hs8 hs1 hL hf hm).mono fun e w' h => ⟨fun h' => ?_, fun _ => h⟩
      rw [layB, hf] at h'
      simp at h'
  · refine (lay_much A n c size w hs8 hs1 hm).mono fun e w' h => ⟨fun h' => ?_, fun _ => ⟨h.1, h.2 ▸ Below.refl _ _⟩⟩
    rw [layB, hn] at h'
    simp [hm] at h'

end Go.Proofs.Ytahpdnfnaimbnaa
