/-
  The bytes of places: the document's Bytes.
-/
import Derived.Test.YtlopndnjkphdnaaEntryX10
namespace Go.Proofs.Ytlopndnjkphdnaa.Entry
open Go.RowKit

theorem dirB_take_step {S : List Slot} {i : Nat} {t : Slot} (h : S[i]? = some t) : dirB hsh (S.take (i + 1)) = dirB hsh (S.take i) ++ slotB hsh t := by
  obtain ⟨hi, rfl⟩ := List.getElem?_eq_some_iff.1 h
  rw [List.take_succ_eq_append_getElem hi, dirB_append]
  simp [dirB]
theorem soks_take {S : List Slot} (h : SOks S) (i : Nat) : SOks (S.take i) := fun s hs => h s (List.mem_of_mem_take hs)

set_option maxHeartbeats 1600000 in
set_option maxRecDepth 100000 in
theorem rbytes_any (S : List Slot) (hS : SOks S) (A : Option Addr) (n c : Nat) (w : World) (hn : S.length = n) (hr : Rd w w.heap.size A (rowsG slotC S)) (h1000 : S.length ≤ 1000) :
    Calls Try.prog 42 #[.slice A n c] w fun e w' => ∃ v, e = .returned v ∧ w'.ownsRow w.heap.size 5 1 v (dirB hsh S).length (bytesV (dirB hsh S)) ∧ Below w.heap.size w w' := by
  subst hn
  have HR1 := Lib.hid hr
  have HL := Lib.hid h1000
  have hmk := make16
  clear hr h1000
  by_cases hS0 : 0 < S.length
  · obtain ⟨b2, o2, rfl, hb2⟩ := rd_slots HR1.out hS0
    go_enter Try.func42, Try.ntmps42
    go_wp2
    go_loopw [3, 4] (fun v k wr => ∃ i : Nat, k = .int .i64 (i : Int) ∧ i ≤ S.length ∧ wr.ownsRow w.heap.size 5 1 v (i * 16) (bytesV (dirB hsh (S.take i))) ∧ Below w.heap.size w wr) (fun _ k _ => S.length - (intOf k).toNat)
    case atStart => exact ⟨0, rfl, Nat.zero_le _, by rw [List.take_zero]; exact World.ownsRow_nil _ _ _ _, Below.refl _ _⟩
    case round =>
      obtain ⟨i, rfl, hi, hown, hbel⟩ := hrel
      have HO := Lib.hid hown
      have HB := Lib.hid hbel
      clear hown hbel
      by_cases hlt : i < S.length
      · have hlti : (i : Int) < (S.length : Int) := by omega
        have hi0 : (0 : Int) ≤ (i : Int) := by omega
        have hiw : IntKind.i64.wrap ((i : Int) + 1) = ((i + 1 : Nat) : Int) := by rw [IntKind.wrap_i64]; have := HL.out; omega
        obtain ⟨t, ht⟩ : ∃ t, S[i]? = some t := ⟨_, List.getElem?_eq_getElem hlt⟩
        have HE := Lib.hid (dirB_take_step ht)
        have hok := hS _ (List.mem_of_getElem? ht)
        have HBA := Lib.hid (HB.out.trans ((alloc_below wr (.cells (bytesV zeros16).toArray 5)).mono HB.out.size))
        have hr2 := HR1.out.below HBA.out
        have HOA := Lib.hid (HO.out.alloc (.cells (bytesV zeros16).toArray 5))
        have HZR := Lib.hid (zeros_rd wr)
        cases t with
        | none =>
          have d2 := rd_slot hr2 ht (j := 2) (v := .bool false) rfl
          clear ht hr2
          go_wp2_with (first
            | (at_builtin; refine wpList_app5 _ rfl (.tmp 27) (.tmp 28) rfl w.heap.size _ (i * 16) (dirB hsh (S.take i)) rfl HOA.out (wr.heap.size + 1) (some ⟨wr.heap.size, 0, none⟩) 16 16 zeros16 rfl rfl HZR.out (by have := HL.out; omega) HBA.out.size ?_; intro v7 w7 hown7 hg7; have HB7 := Lib.hid (HBA.out.grown hg7 HBA.out.size (fun k hk => (HOA.out.lt k hk).1)); have HO7 := Lib.hid (show w7.ownsRow w.heap.size 5 1 v7 ((i + 1) * 16) (bytesV (dirB hsh (S.take (i + 1)))) by (rw [HE.out, Nat.add_mul]; exact hown7)); clear hown7 hg7))
          go_roundw
          case rel => exact ⟨i + 1, by first | rfl | (congr 1), hlt, HO7.out, HB7.out⟩
          case measure => simp [intOf]; omega
        | some x =>
          have hx := hok x rfl
          have d2 := rd_slot hr2 ht (j := 2) (v := .bool true) rfl
          have d0 := rd_slot hr2 ht (j := 0) (v := .string ⟨x.n.toArray⟩) rfl
          have d1 := rd_slot hr2 ht (j := 1) (v := .int .i64 (x.i : Int)) rfl
          rw [Nat.add_zero] at d0
          have hlay : ∀ W, Calls Try.prog 12 #[.agg #[.string ⟨x.n.toArray⟩, .int .i64 (x.i : Int)]] W fun e w' => Hands W (slotB hsh (some x), 0) e w' := fun W => by
            have h := rlay_any ⟨x.n.toArray⟩ (x.i : Int) W
            rw [layE_yes (H := hsh) (n := (⟨x.n.toArray⟩ : ByteArray).data.toList) hx.name (by have := hx.ino; omega)] at h
            exact h
          have HLAY := Lib.hid hlay
          have HSL := Lib.hid (length_slotB (H := hsh) (s := some x) (.some hx))
          clear ht hr2 hlay
          generalize slotB hsh (some x) = sb at *
          go_wp2_with (first
            | (go_at_call 12; (with_reducible refine (HLAY.out _).mono ?_); rintro e w5 ⟨v5, he, hown5, hb5⟩; obtain rfl := he; obtain ⟨-, A5, c5, hv5, -, -, hr5⟩ := own_rd (HSL.out ▸ hown5 : World.ownsRow _ _ _ _ _ 16 (bytesV sb)); subst hv5; have HR5 := Lib.hid hr5; have HB5 := Lib.hid (HBA.out.trans (hb5.mono HBA.out.size)); have HO5 := Lib.hid (own_below HOA.out hb5); clear hown5 hb5 hr5; simp only)
            | (at_builtin; refine wpList_app5 _ rfl (.tmp 27) (.tmp 28) rfl w.heap.size _ (i * 16) (dirB hsh (S.take i)) rfl HO5.out w5.heap.size A5 16 c5 sb rfl HSL.out HR5.out (by have := HL.out; omega) HB5.out.size ?_; intro v7 w7 hown7 hg7; have HB7 := Lib.hid (HB5.out.grown hg7 HB5.out.size (fun k hk => (HO5.out.lt k hk).1)); have HO7 := Lib.hid (show w7.ownsRow w.heap.size 5 1 v7 ((i + 1) * 16) (bytesV (dirB hsh (S.take (i + 1)))) by (rw [HE.out, Nat.add_mul]; exact hown7)); clear hown7 hg7))
          go_roundw
          case rel => exact ⟨i + 1, by first | rfl | (congr 1), hlt, HO7.out, HB7.out⟩
          case measure => simp [intOf]; omega
      · obtain rfl : i = S.length := by omega
        rw [List.take_length] at HO
        have HLD := Lib.hid (length_dirB (H := hsh) hS)
        go_wp2
        go_ret
        exact ⟨_, rfl, by rw [HLD.out]; exact HO.out, HB.out⟩
  · obtain rfl : S = [] := List.eq_nil_of_length_eq_zero (by omega)
    go_enter Try.func42, Try.ntmps42
    go_wp2
    go_loopw [3, 4] (fun v k wr => v = .slice none 0 0 ∧ k = .int .i64 0 ∧ wr = w) (fun _ _ _ => 0)
    case atStart => exact ⟨rfl, rfl, rfl⟩
    case round =>
      obtain ⟨rfl, rfl, rfl⟩ := hrel
      go_wp2
      go_ret
      exact ⟨_, rfl, World.ownsRow_nil _ _ _ _, Below.refl _ _⟩
end Go.Proofs.Ytlopndnjkphdnaa.Entry
