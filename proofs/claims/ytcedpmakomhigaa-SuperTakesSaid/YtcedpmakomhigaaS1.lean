/-
  The check sum of bytes, by the program (a loop by goto) and by the document's own answer, and the first bytes of many: what each call returns.
-/
import Derived.Test.YtcedpmakomhigaaW1
import Derived.Test.YtcedpmakomhigaaA
import Derived.Test.YtcedpmakomhigaaG
import Derived.WalkMore
import Derived.Laws.BitsAllLaws
namespace Go.Proofs.Ytcedpmakomhigaa
open Go.RowKit

/-- What holds at a label: so many bytes are summed. -/
def Summed (w : World) (s : Nat) (A : Option Addr) (n c : Nat) (l : List UInt8) (k : Nat) (a : Act) (w' : World) : Prop :=
  w' = w ∧ ∃ (lo hi : Nat) (u8 u9 u10 u11 u12 u13 u14 u15 u16 u17 u18 u19 u20 u21 u22 u23 u24 u25 u26 u27 u28 u29 u30 u31 : Value), a = { tmps := #[.int .u32 s, .slice A n c, undef, undef, .int .u32 0, .int .u32 (lo : Nat), .int .u32 (hi : Nat), .int .i64 (k : Nat), u8, u9, u10, u11, u12, u13, u14, u15, u16, u17, u18, u19, u20, u21, u22, u23, u24, u25, u26, u27, u28, u29, u30, u31, undef, undef, undef, undef], defers := [] } ∧ lo < 65521 ∧ hi < 65521 ∧ aMore (aPair s) (l.take k) = (lo, hi)

theorem aMore_next {s : Nat × Nat} {l : List UInt8} {k lo hi : Nat} (h : aMore s (l.take k) = (lo, hi)) {x : UInt8} (hx : l[k]? = some x) :
    aMore s (l.take (k + 1)) = ((lo + x.toNat) % 65521, (hi + (lo + x.toNat) % 65521) % 65521) := by
  obtain ⟨hk, rfl⟩ := List.getElem?_eq_some_iff.1 hx
  rw [List.take_succ_eq_append_getElem hk, aMore_snoc, h]; rfl


set_option maxRecDepth 100000 in
set_option maxHeartbeats 400000 in
theorem more_any (l : List UInt8) (A : Option Addr) (n c B : Nat) (s : Nat) (w : World) (hs : s < 4294967296) (hn : l.length = n) (hr : Rd w B A (bytesV l)) (hm : n ≤ 9223372036854775807) :
    Calls Try.prog 41 #[.int .u32 s, .slice A n c] w fun e w' => e = .returned (.int .u32 (sumMore s l : Nat)) ∧ w = w' := by
  have Hn := Lib.hid hn
  clear hn
  have hcells : ∀ k, k < n → ∃ (x : UInt8) (b o : Nat), A = some ⟨b, o, none⟩ ∧ l[k]? = some x ∧ w.cell? ⟨b, o + k, none⟩ = some (.int .u8 (x.toNat : Int)) ∧ (x.toNat : Int) < 256 := fun k hk => by
    have hkl : k < l.length := by rw [Hn.out]; exact hk
    rcases hr with h | ⟨b, o, rfl, hb, hc⟩
    · exfalso; have := congrArg List.length h; rw [length_bytesV] at this; simp at this; simp [this] at hkl
    · exact ⟨l[k], b, o, rfl, List.getElem?_eq_getElem hkl, hc k _ (by simp [bytesV, byteV]; exact ⟨_, List.getElem?_eq_getElem _, rfl⟩), by have := l[k].toNat_lt; omega⟩
  have Hc := Lib.hid hcells
  clear hcells
  go_enter Try.func41, Try.ntmps41
  go_wp2
  have hp1 : s % 65536 % 65521 < 65521 := Nat.mod_lt _ (by decide)
  have hp2 : s / 65536 % 65521 < 65521 := Nat.mod_lt _ (by decide)
  have Hz := Lib.hid (show aMore (aPair s) (l.take 0) = (s % 65536 % 65521, s / 65536 % 65521) from rfl)
  refine wp_scope_labels 1 0 (fun a w' => ∃ k : Nat, k ≤ n ∧ Summed w s A n c l k a w') (fun a w' => Summed w s A n c l n a w') (fun a _ => n - (intOf (a.tmps.getD 7 undef)).toNat) rfl rfl ?_ ?_ ?_
  · go_wp2
    go_step3
    have el : (s : Int) % 65536 % 65521 = ((s % 65536 % 65521 : Nat) : Int) := rfl
    have eh : (s : Int) / 65536 % 65521 = ((s / 65536 % 65521 : Nat) : Int) := rfl
    rw [el, eh]
    clear el eh
    generalize s % 65536 % 65521 = lo at *
    generalize s / 65536 % 65521 = hi at *
    by_cases hlt : 0 < n
    · obtain ⟨x, b, o, rfl, hx, hcell, hx256⟩ := Hc.out 0 hlt
      have hx0 : 0 ≤ (x.toNat : Int) := by omega
      have Hx := Lib.hid hx
      clear hx
      have hne : ((0 : Int) == (n : Int)) = false := beq_eq_false_iff_ne.2 (by omega)
      rw [Nat.add_zero] at hcell
      go_wp2
      go_step3
      exact .inl ⟨rfl, 1, hlt, rfl, (lo + x.toNat) % 65521, (hi + (lo + x.toNat) % 65521) % 65521, _, _, _, _, _, _, _, _, _, _, _, _, _, _, _, _, _, _, _, _, _, _, _, _, rfl, Nat.mod_lt _ (by decide), Nat.mod_lt _ (by decide), aMore_next Hz.out Hx.out⟩
    · obtain rfl : n = 0 := by omega
      go_wp2
      go_step3
      exact .inr ⟨rfl, rfl, _, _, _, _, _, _, _, _, _, _, _, _, _, _, _, _, _, _, _, _, _, _, _, _, _, _, rfl, hp1, hp2, Hz.out⟩
  · rintro a w' ⟨k, hk, rfl, lo, hi, u8, u9, u10, u11, u12, u13, u14, u15, u16, u17, u18, u19, u20, u21, u22, u23, u24, u25, u26, u27, u28, u29, u30, u31, rfl, hlo, hhi, hsum⟩
    have Hs := Lib.hid hsum
    clear hsum
    by_cases hlt : k < n
    · obtain ⟨x, b, o, rfl, hx, hcell, hx256⟩ := Hc.out k hlt
      have hx0 : 0 ≤ (x.toNat : Int) := by omega
      have Hx := Lib.hid hx
      clear hx
      have hne : ((k : Int) == (n : Int)) = false := beq_eq_false_iff_ne.2 (by omega)
      go_wp2
      go_step3
      exact .inl ⟨rfl, ⟨k + 1, hlt, rfl, (lo + x.toNat) % 65521, (hi + (lo + x.toNat) % 65521) % 65521, _, _, _, _, _, _, _, _, _, _, _, _, _, _, _, _, _, _, _, _, _, _, _, _, rfl, Nat.mod_lt _ (by decide), Nat.mod_lt _ (by decide), aMore_next Hs.out Hx.out⟩, by simp [intOf]; omega⟩
    · obtain rfl : k = n := by omega
      go_wp2
      go_step3
      exact .inr ⟨rfl, rfl, _, _, _, _, _, _, _, _, _, _, _, _, _, _, _, _, _, _, _, _, _, _, _, _, _, _, rfl, hlo, hhi, Hs.out⟩
  · rintro a w' ⟨rfl, lo, hi, u8, u9, u10, u11, u12, u13, u14, u15, u16, u17, u18, u19, u20, u21, u22, u23, u24, u25, u26, u27, u28, u29, u30, u31, rfl, hlo, hhi, hsum⟩
    have Hs := Lib.hid hsum
    clear hsum
    go_wp2
    rw [jumps_ret]
    go_ret
    refine ⟨?_, rfl⟩
    have h := Hs.out
    rw [List.take_of_length_le (by rw [Hn.out]; omega)] at h
    unfold sumMore
    rw [h]
    show Ending.returned (.int .u32 (bits .or .u32 ((hi : Int) * 65536) lo)) = Ending.returned (.int .u32 ((hi * 65536 + lo : Nat) : Int))
    have := u32_or_nat (hi * 65536) lo (by omega) (by omega)
    rw [nat_join 16 _ _ (by omega) (by omega)] at this
    rw [← this]; rfl

set_option maxHeartbeats 400000 in
theorem rmore_any (l : List UInt8) (A : Option Addr) (n c B : Nat) (s : Nat) (w : World) (hs : s < 4294967296) (hn : l.length = n) (hr : Rd w B A (bytesV l)) (hm : n ≤ 9223372036854775807) :
    Calls Try.prog 42 #[.int .u32 s, .slice A n c] w fun e w' => e = .returned (.int .u32 (sumMore s l : Nat)) ∧ w = w' := by
  have Hn := Lib.hid hn
  clear hn
  have hcells : ∀ k, k < n → ∃ (x : UInt8) (b o : Nat), A = some ⟨b, o, none⟩ ∧ l[k]? = some x ∧ w.cell? ⟨b, o + k, none⟩ = some (.int .u8 (x.toNat : Int)) ∧ (x.toNat : Int) < 256 := fun k hk => by
    have hkl : k < l.length := by rw [Hn.out]; exact hk
    rcases hr with h | ⟨b, o, rfl, hb, hc⟩
    · exfalso; have := congrArg List.length h; rw [length_bytesV] at this; simp at this; simp [this] at hkl
    · exact ⟨l[k], b, o, rfl, List.getElem?_eq_getElem hkl, hc k _ (by simp [bytesV, byteV]; exact ⟨_, List.getElem?_eq_getElem _, rfl⟩), by have := l[k].toNat_lt; omega⟩
  have Hc := Lib.hid hcells
  clear hcells
  have hp1 : s % 65536 % 65521 < 65521 := Nat.mod_lt _ (by decide)
  have hp2 : s / 65536 % 65521 < 65521 := Nat.mod_lt _ (by decide)
  have Hz := Lib.hid (show aMore (aPair s) (l.take 0) = (s % 65536 % 65521, s / 65536 % 65521) from rfl)
  go_enter Try.func42, Try.ntmps42
  go_wp2
  go_loop [5, 6, 7] (fun x y i => ∃ k lo hi : Nat, k ≤ n ∧ i = .int .i64 k ∧ x = .int .u32 lo ∧ y = .int .u32 hi ∧ lo < 65521 ∧ hi < 65521 ∧ Hid (aMore (aPair s) (l.take k) = (lo, hi))) (fun _ _ i => n - (intOf i).toNat)
  case atStart => exact ⟨0, _, _, Nat.zero_le _, rfl, rfl, rfl, hp1, hp2, Hz⟩
  case round =>
    obtain ⟨k, lo, hi, hk, rfl, rfl, rfl, hlo, hhi, Hs⟩ := hrel
    by_cases hlt : k < n
    · obtain ⟨x, b, o, rfl, hx, hcell, hx256⟩ := Hc.out k hlt
      have hx0 : 0 ≤ (x.toNat : Int) := by omega
      have Hx := Lib.hid hx
      clear hx
      go_wp2
      go_round
      case rel => exact ⟨k + 1, (lo + x.toNat) % 65521, (hi + (lo + x.toNat) % 65521) % 65521, hlt, by go_num, rfl, rfl, Nat.mod_lt _ (by decide), Nat.mod_lt _ (by decide), aMore_next Hs.out Hx.out⟩
      case measure => simp [intOf]; omega
    · go_wp2
      go_ret
      obtain rfl : k = n := by omega
      refine ⟨?_, rfl⟩
      have h := Hs.out
      rw [List.take_of_length_le (by rw [Hn.out]; omega)] at h
      unfold sumMore
      rw [h]
      rfl

theorem of_any (l : List UInt8) (A : Option Addr) (n c B : Nat) (w : World) (hn : l.length = n) (hr : Rd w B A (bytesV l)) (hm : n ≤ 9223372036854775807) :
    Calls Try.prog 38 #[.slice A n c] w fun e w' => e = .returned (.int .u32 (sumOf l : Nat)) ∧ w = w' := by
  have Hn := Lib.hid hn
  clear hn
  go_enter Try.func38, Try.ntmps38
  go_wp2_with (go_at_call 41; refine (more_any l A n c B 1 _ (by omega) Hn.out hr hm).mono ?_; rintro e w' ⟨rfl, rfl⟩)
  go_ret
  exact ⟨rfl, rfl⟩
theorem rof_any (l : List UInt8) (A : Option Addr) (n c B : Nat) (w : World) (hn : l.length = n) (hr : Rd w B A (bytesV l)) (hm : n ≤ 9223372036854775807) :
    Calls Try.prog 39 #[.slice A n c] w fun e w' => e = .returned (.int .u32 (sumOf l : Nat)) ∧ w = w' := by
  have Hn := Lib.hid hn
  clear hn
  go_enter Try.func39, Try.ntmps39
  go_wp2_with (go_at_call 42; refine (rmore_any l A n c B 1 _ (by omega) Hn.out hr hm).mono ?_; rintro e w' ⟨rfl, rfl⟩)
  go_ret
  exact ⟨rfl, rfl⟩

end Go.Proofs.Ytcedpmakomhigaa
