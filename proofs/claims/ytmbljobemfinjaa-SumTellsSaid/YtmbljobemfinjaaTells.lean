/-
  SumTells: whatever the bytes, the place and the other byte, with one byte another one, or two unlike neighbours changed about, what was sealed is not opened.
-/
import Derived.Test.YtmbljobemfinjaaF
import Derived.Test.YtmbljobemfinjaaB
import Derived.BigRegion
namespace Go.Proofs.Ytmbljobemfinjaa
open Go.ChangeShapes Go.WideShapes Go.ChangeAt Go.RowKit

theorem byte_of {c : Int} (h0 : 0 ≤ c) (h1 : c ≤ 255) : ∃ b : UInt8, c = (b.toNat : Int) := by
  obtain ⟨m, rfl⟩ := Int.eq_ofNat_of_zero_le h0
  exact ⟨UInt8.ofNat m, by rw [UInt8.toNat_ofNat']; omega⟩
theorem byte_eq (a b : UInt8) : ((a.toNat : Int) == (b.toNat : Int)) = (a == b) := by
  rw [Bool.eq_iff_iff, beq_iff_eq, beq_iff_eq]
  exact ⟨fun h => UInt8.toNat_inj.1 (by omega), fun h => by rw [h]⟩
/-- Open's error: 0 or not. -/
theorem open_err (L : List UInt8) (b : Bool) (A : Option Addr) (n c : Nat) (w : World) (hn : L.length = n) (hr : Rd w w.heap.size A (bytesV L)) (hc : n ≤ c) (hm : n ≤ 140737488355320) (ho : opensB L = b) :
    Calls Try.prog 16 #[.slice A n c] w fun e w' => ∃ (v : Value) (z : Int), e = .returned (.tuple #[v, .int .i64 z]) ∧ (z == 0) = b ∧ Below w.heap.size w w' := by
  cases b with
  | true => exact (open_yes L A n c w hn hr hc hm ho).mono fun e w' ⟨v, he, hm⟩ => ⟨v, 0, he, rfl, hm.2⟩
  | false => exact (open_no L A n c w hn hr hc hm ho).mono fun e w' ⟨he, hw⟩ => ⟨_, 30, he, rfl, hw ▸ Below.refl _ _⟩

set_option maxRecDepth 100000 in
set_option maxHeartbeats 1600000 in
theorem tells_body (k0 : List UInt8) (A0 : Option Addr) (n0 c0 m0 : Nat) (q : Nat) (y : UInt8) (w : World) (Hf0 : Hid (∀ w, Calls Try.prog 10 #[.slice A0 n0 c0] w fun e w' => e = .returned (.slice A0 m0 c0) ∧ w = w'))
    (Hl0 : Hid (k0.length = m0)) (hs0 : Rd w w.heap.size A0 (bytesV k0)) (hk50 : m0 ≤ 50000) (hkc0 : m0 ≤ c0) (hq : q ≤ 18446744073709551615) :
    Calls Try.prog 7 #[.slice A0 n0 c0, .int .u64 q, .int .u8 (y.toNat : Int)] w fun e w' => e = .returned (.bool true) ∧ Below w.heap.size w w' := by
  have hy0 : (0 : Int) ≤ (y.toNat : Int) := by omega
  have hy1 : (y.toNat : Int) ≤ 255 := by have := y.toNat_lt; omega
  go_enter Try.func7, Try.ntmps7
  go_wp2_with (first
    | (go_at_call 11; refine (shown_any _).mono ?_; rintro e w1 ⟨rfl, hb⟩)
    | (go_at_call 10; (with_reducible refine (Hf0.out _).mono ?_); rintro e w' ⟨rfl, rfl⟩)
    | fail)
  refine (seal_any k0 A0 m0 c0 _ Hl0.out ((hs0.below hb).more hb.size) hkc0 (by omega)).mono ?_
  rintro e w2 ⟨v, rfl, hown2, hb2⟩
  have hB2 := hb.trans (hb2.mono hb.size)
  have hz0 := hb.size
  rw [length_sealed, Hl0.out] at hown2
  obtain ⟨g, cap, rfl, hcap⟩ := own_pos hown2 (by omega)
  have hg := hown2.lt g rfl
  clear hs0 hb hb2 hg
  obtain ⟨k, hk⟩ : ∃ k, k = q % (m0 + 4) := ⟨_, rfl⟩
  have hkl : k < m0 + 4 := by rw [hk]; exact Nat.mod_lt _ (by omega)
  have hki : (q : Int) % ((m0 : Int) + 4) = (k : Int) := by rw [hk]; rfl
  obtain ⟨a, ha⟩ : ∃ a, (sealed k0)[k]? = some a := ⟨_, List.getElem?_eq_getElem (by rw [length_sealed, Hl0.out]; exact hkl)⟩
  have hcell : w2.cell? ⟨g, k, none⟩ = some (.int .u8 (a.toNat : Int)) := by
    rw [hown2.cellAt k (by omega), bytesV, List.getElem?_map, ha]; rfl
  have hfr := hown2.frozenAt k
  have Ha := Lib.hid ha
  have ha0 : (0 : Int) ≤ (a.toNat : Int) := by omega
  have ha1 : (a.toNat : Int) ≤ 255 := by have := a.toNat_lt; omega
  clear ha hk
  obtain ⟨hown3, _⟩ := hown2.stored k (.int .u8 (y.toNat : Int))
  have hset : (bytesV (sealed k0)).set k (.int .u8 (y.toNat : Int)) = bytesV ((sealed k0).set k y) := by simp [bytesV, byteV, List.map_set]
  rw [hset] at hown3
  have hg1 := (hown2.lt g rfl).1
  have hz1 : w.heap.size ≤ w1.heap.size := hz0
  have hB3 := hB2.setCell (p := ⟨g, k, none⟩) (by simp; omega) (.int .u8 (y.toNat : Int))
  have ho3 := opens_set k0 k y a Ha.out
  have hbe := byte_eq a y
  have hln : ((sealed k0).set k y).length = m0 + 4 := by rw [List.length_set, length_sealed, Hl0.out]
  obtain ⟨b, hbb⟩ : ∃ b, b = (a == y) := ⟨_, rfl⟩
  rw [← hbb] at ho3 hbe
  have hca := own_pos hown3 (by omega)
  have Ho3 := Lib.hid ho3
  have Hln := Lib.hid hln
  clear hset hown2 hbb ho3 hln
  go_wp2_with fail
  refine (open_err _ b _ (m0 + 4) cap _ Hln.out (own_rdp hown3) hcap (by omega) Ho3.out).mono ?_
  rintro e w4 ⟨v4, z, rfl, hz, hb4⟩
  have hB4 := hB3.trans (hb4.mono hB3.size)
  have hown4 := own_below hown3 hb4
  have hc4 : w4.cell? ⟨g, k, none⟩ = some (.int .u8 (y.toNat : Int)) := by
    rw [hown4.cellAt k (by omega), bytesV, List.getElem?_map, List.getElem?_set_self (by rw [length_sealed, Hl0.out]; exact hkl)]; rfl
  have hf4 := hown4.frozenAt k
  obtain ⟨hown5, _⟩ := hown4.stored k (.int .u8 (a.toNat : Int))
  have hset : (bytesV ((sealed k0).set k y)).set k (.int .u8 (a.toNat : Int)) = bytesV (sealed k0) := by
    have h1 : (sealed k0)[k]'(by rw [length_sealed, Hl0.out]; exact hkl) = a := (List.getElem?_eq_some_iff.1 Ha.out).2
    have h2 : (bytesV ((sealed k0).set k y)).set k (.int .u8 (a.toNat : Int)) = bytesV (((sealed k0).set k y).set k a) := by simp [bytesV, byteV, List.map_set]
    rw [h2, List.set_set, ← h1, List.set_getElem_self]
  rw [hset] at hown5
  have hB5 := hB4.setCell (p := ⟨g, k, none⟩) (by simp; omega) (.int .u8 (a.toNat : Int))
  clear hset hown3 hb4 hB3 hB2 hcell hfr hca hown4
  by_cases hend : m0 ≤ k + 1
  · have h1 : (m0 : Int) ≤ (k : Int) + 1 := by omega
    go_wp2_with fail
    go_ret
    exact ⟨rfl, hB5⟩
  · have h1 : ¬ ((m0 : Int) ≤ (k : Int) + 1) := by omega
    go_wp2_with fail
    obtain ⟨w5, hw5⟩ : ∃ w5, w5 = w4.setCell ⟨g, k, none⟩ (.int .u8 (a.toNat : Int)) := ⟨_, rfl⟩
    rw [← hw5] at hown5 hB5 ⊢
    obtain ⟨d, hd⟩ : ∃ d, (sealed k0)[k + 1]? = some d := ⟨_, List.getElem?_eq_getElem (by rw [length_sealed, Hl0.out]; omega)⟩
    have hca : w5.cell? ⟨g, k, none⟩ = some (.int .u8 (a.toNat : Int)) := by
      rw [hown5.cellAt k (by omega), bytesV, List.getElem?_map, Ha.out]; rfl
    have hcd : w5.cell? ⟨g, k + 1, none⟩ = some (.int .u8 (d.toNat : Int)) := by
      rw [hown5.cellAt (k + 1) (by omega), bytesV, List.getElem?_map, hd]; rfl
    have hfa := hown5.frozenAt k
    have hfd := hown5.frozenAt (k + 1)
    have Hd := Lib.hid hd
    have hd0 : (0 : Int) ≤ (d.toNat : Int) := by omega
    have hd1 : (d.toNat : Int) ≤ 255 := by have := d.toNat_lt; omega
    have hk1 : (k : Int) + 1 < (m0 : Int) + 4 := by omega
    have hk2 : (0 : Int) ≤ (k : Int) + 1 := by omega
    have hk3 : IntKind.i64.wrap ((k : Int) + 1) = (k : Int) + 1 := by rw [IntKind.wrap_i64]; omega
    have hk4 : ((k : Int) + 1).toNat = k + 1 := rfl
    clear hd hc4 hf4 hw5
    go_region
    have hB6 := ((hB5.setCell (p := ⟨g, k, none⟩) (by simp; omega) (.int .u8 (d.toNat : Int))).setCell (p := ⟨g, k + 1, none⟩) (by simp; omega) (.int .u8 (a.toNat : Int))).drew
    have hown6 : (((w5.setCell ⟨g, k, none⟩ (.int .u8 (d.toNat : Int))).setCell ⟨g, k + 1, none⟩ (.int .u8 (a.toNat : Int))).drew).ownsRow w1.heap.size 5 1 (.slice (some ⟨g, 0, none⟩) (m0 + 4) cap) (m0 + 4) (bytesV (((sealed k0).set k d).set (k + 1) a)) := by
      have h1 := ((hown5.stored k (.int .u8 (d.toNat : Int))).1.stored (k + 1) (.int .u8 (a.toNat : Int))).1
      have h2 : ((bytesV (sealed k0)).set k (.int .u8 (d.toNat : Int))).set (k + 1) (.int .u8 (a.toNat : Int)) = bytesV (((sealed k0).set k d).set (k + 1) a) := by simp [bytesV, byteV, List.map_set]
      rw [h2] at h1
      exact h1
    have ho6 := opens_swap k0 k a d (by rw [Hl0.out]; omega) Ha.out Hd.out
    have hbe2 := byte_eq d a
    obtain ⟨b2, hbb2⟩ : ∃ b, b = (d == a) := ⟨_, rfl⟩
    rw [← hbb2] at ho6 hbe2
    have Ho6 := Lib.hid ho6
    have Hln6 := Lib.hid (show (((sealed k0).set k d).set (k + 1) a).length = m0 + 4 by rw [List.length_set, List.length_set, length_sealed, Hl0.out])
    clear hk1 hk2 hk3 hk4 ho6 hbb2 hca hcd hfa hfd hB5 hown5
    go_wp2_with fail
    refine (open_err _ b2 _ (m0 + 4) cap _ Hln6.out (own_rdp hown6) hcap (by omega) Ho6.out).mono ?_
    rintro e w7 ⟨v7, z7, rfl, hz7, hb7⟩
    have hB7 := hB6.trans (hb7.mono hB6.size)
    have hown7 := own_below hown6 hb7
    have hca : w7.cell? ⟨g, k, none⟩ = some (.int .u8 (d.toNat : Int)) := by
      rw [hown7.cellAt k (by omega), bytesV, List.getElem?_map, List.getElem?_set_ne (by omega), List.getElem?_set_self (by rw [length_sealed, Hl0.out]; omega)]; rfl
    have hcd : w7.cell? ⟨g, k + 1, none⟩ = some (.int .u8 (a.toNat : Int)) := by
      rw [hown7.cellAt (k + 1) (by omega), bytesV, List.getElem?_map, List.getElem?_set_self (by rw [List.length_set, length_sealed, Hl0.out]; omega)]; rfl
    have hk1 : (k : Int) + 1 < (m0 : Int) + 4 := by omega
    have hk2 : (0 : Int) ≤ (k : Int) + 1 := by omega
    have hk3 : IntKind.i64.wrap ((k : Int) + 1) = (k : Int) + 1 := by rw [IntKind.wrap_i64]; omega
    have hk4 : ((k : Int) + 1).toNat = k + 1 := rfl
    clear hown6 hown7 hb7 hB6
    go_wp2_with fail
    go_quiet (fail)
    go_wp2
    go_ret
    exact ⟨rfl, below_drewN hB7 _⟩

theorem tells_walk (l0 : List UInt8) (A0 : Option Addr) (n0 c0 : Nat) (q d : Int) (w : World) (hn0 : l0.length = n0) (hr0 : Rd w w.heap.size A0 (bytesV l0)) (hc0 : n0 ≤ c0) (hm0 : c0 ≤ 9223372036854775807) (hq : 0 ≤ q ∧ q ≤ 18446744073709551615) (hd : 0 ≤ d ∧ d ≤ 255) :
    Calls Try.prog 7 #[.slice A0 n0 c0, .int .u64 q, .int .u8 d] w fun e w' => e = .returned (.bool true) ∧ Below w.heap.size w w' := by
  obtain ⟨t, rfl⟩ := Int.eq_ofNat_of_zero_le hq.1
  obtain ⟨y, rfl⟩ := byte_of hd.1 hd.2
  have hs0 := hr0.take 50000
  rw [← bytesV_take] at hs0
  exact tells_body (l0.take 50000) A0 n0 c0 (min n0 50000) t y w (Lib.hid (fun w => few_any A0 n0 c0 w hc0 hm0)) (few_len l0 n0 hn0) hs0 (Nat.min_le_right _ _) (by omega) (by omega)

theorem tells_contract (H : Type) (enc : TypeId × Value → H) (W : World) (base : Nat) (args : Array Value) (ds gs : List (DataW H)) (before : List MemPlace)
    (hval : ∀ (j : Nat) t v, Try.f7.params[j]? = some t → args[j]? = some v → Value.okWide Try.prog W .any base t v)
    (hW : DataW.Whole enc Try.prog Try.f7.params.toList Rows.sumTellsSpec.vars false W args.toList ds gs before) :
    Calls Try.prog 7 args W fun e W' => ∃ v, e = .returned v ∧ Rows.sumTellsSpec.post enc Try.prog Try.f7 false true false false W args v W' := by
  have hW' := hW
  have hlt : ∀ x ∈ before, x.block < W.heap.size := fun x hx => hW.lt x hx
  obtain ⟨p, q, hA0, hV, rfl, _, _⟩ := hW
  have hA : DataW.TrodAll enc Try.prog W 0 (fun _ => true) true Try.f7.params.toList args.toList ds p := hA0
  rw [Try.params7] at hA hval
  obtain ⟨v0, vs0, d0, ds0, p0, q0, hargs, rfl, rfl, h0, r0⟩ := trodAll_cons hA
  obtain ⟨v1, vs1, d1, ds1, p1, q1, rfl, rfl, rfl, h1, r1⟩ := trodAll_cons r0
  obtain ⟨v2, vs2, d2, ds2, p2, q2, rfl, rfl, rfl, h2, r2⟩ := trodAll_cons r1
  obtain ⟨rfl, rfl, rfl⟩ := trodAll_nil r2
  obtain rfl : args = #[v0, v1, v2] := by cases args; simp_all
  obtain ⟨rfl, rfl⟩ := trodVars_none hV
  clear hA0
  obtain ⟨A0, n0, c0, l0, rfl, hn0, hc0, hm0, hr0⟩ := open_bytesL Try.underlying23 Try.underlying5 cells5 (hval 0 23 v0 rfl rfl) h0 (fun x hx => hlt x (by simp [hx]))
  unfold maxLen at hm0
  obtain ⟨a1, rfl, rfl, rfl, wa1⟩ := open_int Try.underlying34 (hval 1 34 v1 rfl rfl) h1
  have bd1 := bounds_u64 wa1
  obtain ⟨a2, rfl, rfl, rfl, wa2⟩ := open_int Try.underlying5 (hval 2 5 v2 rfl rfl) h2
  have bd2 := bounds_u8 wa2
  refine (tells_walk l0 A0 n0 c0 a1 a2 W hn0 hr0 hc0 hm0 bd1 bd2).mono fun e W' ⟨he, hb⟩ => ?_
  subst he
  exact ⟨_, rfl, law_post laid (by kernel_rfl) Try.underlying4 (by rw [Try.params7]; decide +kernel) rfl hW' ⟨rfl, rfl, rfl⟩ hb⟩

set_option maxRecDepth 100000 in
theorem tells_lifted (os : Os) (started : os.Started) (H : Type) (enc : TypeId × Value → H) :
    ReturnsInHanded {} Try.checked os 7 .any (Rows.sumTellsSpec.pre6 enc Try.prog Try.f7 Rows.sumTellsRow.domain false) (Rows.sumTellsSpec.post enc Try.prog Try.f7 false true false false) := by
  refine returnsInHanded_of_change (C := Try.checked) own started (by kernel_rfl) Try.func7
    (ChangeSpec.witness6 (enc := enc) (C := Try.checked) false ⟨#[], #[.slice none 0 0, .int .u64 0, .int .u8 0], []⟩ 8 (by kernel_rfl) (by kernel_rfl) (by kernel_rfl) (by kernel_rfl)) ?_
  intro W base args ds gs before hval hW _ _
  exact tells_contract H enc W base args ds gs before hval hW

/-- SumTells is true for every input. -/
theorem tells_holds : Rows.SumTellsSaid :=
  OpenClaim.holds_of_wide 7 Try.f7 rfl rfl rfl rfl rfl rfl rfl ⟨rfl, rfl, rfl, rfl, rfl⟩ rfl rfl rfl rfl rfl (by kernel_rfl) Try.func7 (by kernel_rfl)
    (of_decide_eq_true (by kernel_rfl)) (by unfold Func.isWrapper; first | (rw [if_pos (by decide +kernel)]; kernel_rfl) | (rw [if_neg (by decide +kernel)]; exact ⟨rfl, rfl⟩))
    (fun os started H enc _ => tells_lifted os started H enc)
end Go.Proofs.Ytmbljobemfinjaa
