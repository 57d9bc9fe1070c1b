/-
  Statement DiskApart: a copy of a disk is like it, and apart from it. No condition.
-/
import Derived.Test.YtnebenkodpnofaaO
import Derived.Test.YtnebenkodpnofaaW7
namespace Go.Proofs.Ytnebenkodpnofaa
open Go.RowKit Go.ChangeShapes Go.WideShapes Go.ChangeAt
attribute [local go_sem ↓] Go.wp_at_zero Go.wp_at_succ

set_option maxRecDepth 100000 in
set_option maxHeartbeats 1600000 in
theorem apart_walk (l0 l1 : List Act) (A0 A1 : Option Addr) (n0 n1 c0' c1' : Nat) (w : World) (hn0 : l0.length = n0) (hc0 : n0 ≤ c0') (hm0 : c0' ≤ 9223372036854775807) (hr0 : Acts w w.heap.size A0 l0)
    (hn1 : l1.length = n1) (hc1 : n1 ≤ c1') (hm1 : c1' ≤ 9223372036854775807) (hr1 : Acts w w.heap.size A1 l1) :
    Calls Try.prog 7 #[.slice A0 n0 c0', .slice A1 n1 c1'] w fun e w' => e = .returned (.bool true) ∧ Below w.heap.size w w' := by
  have R0 := Lib.hid hr0
  have R1 := Lib.hid hr1
  have Hn0 := Lib.hid hn0
  have Hn1 := Lib.hid hn1
  clear hr0 hr1 hn0 hn1
  go_enter Try.func7, Try.ntmps7
  go_wp2_with fail
  refine (shown_any _).mono ?_
  rintro e w1 ⟨rfl, hb⟩
  have L1 := Lib.hid hb
  clear hb
  go_wp2_with fail
  refine (new_any (f := sec) _ 10 (by decide) 0 sec_zero).mono ?_
  rintro e w2 ⟨b, S, rfl, hb, hD, hS⟩
  have M0 : Hid (Mine w.heap.size w2 b (Dk.fresh 10 0) S) := ⟨hD, fun i hi => Nat.le_trans L1.out.size (hS i hi)⟩
  have L2 := Lib.hid (L1.out.trans (hb.mono L1.out.size))
  clear hb hD hS L1
  go_wp2_with fail
  refine (few_any l0 A0 n0 c0' _ Hn0.out hc0 hm0 ((R0.out.below L2.out).more L2.out.size)).mono ?_
  rintro e w3 ⟨q0, rfl, hq0, hq1, rfl⟩
  go_wp2
  go_loopw [31] (fun i wr => ∃ (j : Nat) (k : Dk Nat) (S' : Nat → Prop), j ≤ q0 ∧ i = .int .i64 (j : Int) ∧ Mine w.heap.size wr b k S' ∧ Below w.heap.size w wr ∧ Ten j k) (fun i _ => q0 - (intOf i).toNat)
  case atStart => exact ⟨0, _, S, Nat.zero_le _, rfl, M0.out, L2.out, Ten.start⟩
  case round =>
    clear M0 L2
    obtain ⟨j, k, S', hj, rfl, hM, hL, hC⟩ := hrel
    have M := Lib.hid hM
    have L := Lib.hid hL
    have C := Lib.hid hC
    clear hM hL hC
    by_cases hlt : j < q0
    · have hun : Hid (k.un.length ≤ 1073741824) := by have := C.out.un; unfold Hid; omega
      obtain ⟨ab, ao, a, rfl, hab, ha, hg, c0, c1, c2, c3, c4, c5⟩ := (R0.out.below L.out).at (i := j) (by rw [Hn0.out]; omega)
      have Hg := Lib.hid hg
      clear ha hg hab
      have Ma := Lib.hid (M.out.below ((Below.refl _ wr).alloc (Nat.le_refl _) (.cells #[.int .u8 (a.kind : Int), .int .i64 a.at_, .int .u8 (a.c : Int), .slice a.bA a.bn a.bc, .int .u16 a.tag, .int .u64 (a.there : Int)] 34)))
      have La := Lib.hid (L.out.alloc L.out.size (.cells #[.int .u8 (a.kind : Int), .int .i64 a.at_, .int .u8 (a.c : Int), .slice a.bA a.bn a.bc, .int .u16 a.tag, .int .u64 (a.there : Int)] 34))
      go_wp2_with fail
      refine (run_any _ _ _ k Ma.out.1 hun.out a Hg.out).mono ?_
      rintro e v ⟨rfl, ht⟩
      obtain ⟨⟨S2, hM2⟩, hb⟩ := Ma.out.turn ht La.out.size
      have M2 := Lib.hid hM2
      have L2 := Lib.hid (La.out.trans hb)
      clear ht hM2 hb M L Ma La
      go_wp2
      go_roundw
      case rel => exact ⟨j + 1, _, S2, by omega, by go_num, M2.out, L2.out, C.out.run a Hg.out⟩
      case measure => simp [intOf]; omega
    · obtain rfl : j = q0 := by omega
      clear hj hlt
      have hun : Hid (k.un.length ≤ 1073741824) := by have := C.out.un; unfold Hid; omega
      go_wp2_with fail
      refine (copy_any sec_enc _ _ _ k M.out.1 (by rw [C.out.len]; decide) (by rw [C.out.len]; decide) hun.out).mono ?_
      rintro e v ⟨b2, rfl, hb, S2, hD2, hS2⟩
      have D := Lib.hid (M.out.1.below hb)
      have DS := Lib.hid M.out.2
      have X : Hid (∀ i, S' i → ¬ S2 i) := fun i h1 h2 => by
        have := M.out.1.lt h1
        have := hS2 i h2
        omega
      have M2 : Hid (Mine w.heap.size v b2 k S2) := ⟨hD2, fun i hi => Nat.le_trans L.out.size (hS2 i hi)⟩
      have L2 := Lib.hid (L.out.trans (hb.mono L.out.size))
      clear hb hD2 hS2 M L
      go_wp2_with fail
      refine (seen_any _ _ _ j k D.out C.out).mono ?_
      rintro e v2 ⟨rfl, hb⟩
      have D3 := Lib.hid (D.out.below hb)
      have M3 := Lib.hid (M2.out.below hb)
      have L3 := Lib.hid (L2.out.trans (hb.mono L2.out.size))
      clear hb D M2 L2
      go_wp2_with fail
      refine (seen_any _ _ _ j k M3.out.1 C.out).mono ?_
      rintro e v3 ⟨rfl, hb⟩
      have D4 := Lib.hid (D3.out.below hb)
      have M4 := Lib.hid (M3.out.below hb)
      have L4 := Lib.hid (L3.out.trans (hb.mono L3.out.size))
      clear hb D3 M3 L3
      obtain ⟨was, hwas⟩ : ∃ was, was = seenS k := ⟨_, rfl⟩
      rw [← hwas]
      have Hwas := Lib.hid hwas
      clear hwas
      go_wp2_with fail
      refine (few_any l1 A1 n1 c1' _ Hn1.out hc1 hm1 ((R1.out.below L4.out).more L4.out.size)).mono ?_
      rintro e w3 ⟨q1, rfl, hq2, hq3, rfl⟩
      clear R0 Hn0
      go_wp2
      go_loopw [57] (fun i wr => ∃ (i' : Nat) (kc : Dk Nat) (Sc : Nat → Prop), i' ≤ q1 ∧ i = .int .i64 (i' : Int) ∧ Mine w.heap.size wr b2 kc Sc ∧ Below w.heap.size w wr ∧ Ten (j + i') kc ∧ IsDisk sec wr S' b k ∧ ∀ t, S' t → ¬ Sc t) (fun i _ => q1 - (intOf i).toNat)
      case atStart => exact ⟨0, _, S2, Nat.zero_le _, rfl, M4.out, L4.out, C.out, D4.out, X.out⟩
      case round =>
        clear M4 L4 D4 X
        obtain ⟨i, kc, Sc, hi, rfl, hM, hL, hT, hD, hX⟩ := hrel
        have M := Lib.hid hM
        have L := Lib.hid hL
        have T := Lib.hid hT
        have D := Lib.hid hD
        have X := Lib.hid hX
        clear hM hL hT hD hX
        by_cases hlt : i < q1
        · have hun2 : Hid (kc.un.length ≤ 1073741824) := by have := T.out.un; unfold Hid; omega
          obtain ⟨ab, ao, a, rfl, hab, ha, hg, c0, c1, c2, c3, c4, c5⟩ := (R1.out.below L.out).at (i := i) (by rw [Hn1.out]; omega)
          have Hg := Lib.hid hg
          clear ha hg hab
          have Ma := Lib.hid (M.out.below ((Below.refl _ wr).alloc (Nat.le_refl _) (.cells #[.int .u8 (a.kind : Int), .int .i64 a.at_, .int .u8 (a.c : Int), .slice a.bA a.bn a.bc, .int .u16 a.tag, .int .u64 (a.there : Int)] 34)))
          have Da := Lib.hid (D.out.below ((Below.refl _ wr).alloc (Nat.le_refl _) (.cells #[.int .u8 (a.kind : Int), .int .i64 a.at_, .int .u8 (a.c : Int), .slice a.bA a.bn a.bc, .int .u16 a.tag, .int .u64 (a.there : Int)] 34)))
          have La := Lib.hid (L.out.alloc L.out.size (.cells #[.int .u8 (a.kind : Int), .int .i64 a.at_, .int .u8 (a.c : Int), .slice a.bA a.bn a.bc, .int .u16 a.tag, .int .u64 (a.there : Int)] 34))
          go_wp2_with fail
          refine (run_any _ _ _ kc Ma.out.1 hun2.out a Hg.out).mono ?_
          rintro e v ⟨rfl, ht⟩
          have D2 := Lib.hid (Da.out.aside ht.1 X.out)
          obtain ⟨hK, Sn, hDn, hSn⟩ := ht
          have X2 : Hid (∀ t, S' t → ¬ Sn t) := fun t h1 h2 => by
            rcases hSn t h2 with h3 | h3
            · exact X.out t h1 h3
            · have := Da.out.lt h1
              omega
          have M2 : Hid (Mine w.heap.size v b2 (kc.run a) Sn) := ⟨hDn, fun t ht => by
            rcases hSn t ht with h3 | h3
            · exact M.out.2 t h3
            · exact Nat.le_trans La.out.size h3⟩
          have L2 := Lib.hid (La.out.trans (hK.below M.out.2 La.out.size))
          clear hK hDn hSn M L D X Ma Da La
          go_wp2
          go_roundw
          case rel => exact ⟨i + 1, _, Sn, by omega, by go_num, M2.out, L2.out, T.out.run a Hg.out, D2.out, X2.out⟩
          case measure => simp [intOf]; omega
        · obtain rfl : i = q1 := by omega
          clear hi hlt M X T
          go_wp2_with fail
          refine (seen_any _ _ _ j k D.out C.out).mono ?_
          rintro e x1 ⟨rfl, hb⟩
          have D2 := Lib.hid (D.out.below hb)
          have L2 := Lib.hid (L.out.trans (hb.mono L.out.size))
          clear hb D L
          rw [← Hwas.out]
          go_wp2_with fail
          refine (copy_any sec_enc _ _ _ k D2.out (by rw [C.out.len]; decide) (by rw [C.out.len]; decide) hun.out).mono ?_
          rintro e x2 ⟨b3, rfl, hb, S3, hD3, hS3⟩
          have D3 := Lib.hid (D2.out.below hb)
          have E3 := Lib.hid hD3
          have X3 : Hid (∀ t, S' t → ¬ S3 t) := fun t h1 h2 => by
            have := D2.out.lt h1
            have := hS3 t h2
            omega
          have E3S : Hid (∀ t, S3 t → w.heap.size ≤ t) := fun t ht => Nat.le_trans L2.out.size (hS3 t ht)
          have L3 := Lib.hid (L2.out.trans (hb.mono L2.out.size))
          clear hb hD3 hS3 D2 L2
          go_wp2_with fail
          refine (crash_any sec_enc _ _ _ k D3.out hun.out 6 (by decide)).mono ?_
          rintro e x3 ⟨rfl, ht⟩
          have E4 := Lib.hid (E3.out.aside ht.1 fun t h1 h2 => X3.out t h2 h1)
          obtain ⟨hK, S4, hD4, hS4⟩ := ht
          have X4 : Hid (∀ t, S4 t → ¬ S3 t) := fun t h1 h2 => by
            rcases hS4 t h1 with h3 | h3
            · exact X3.out t h3 h2
            · have := E3.out.lt h2
              omega
          have D4 := Lib.hid hD4
          have L4 := Lib.hid (L3.out.trans (hK.below DS.out L3.out.size))
          clear hK hD4 hS4 D3 E3 L3 X3
          go_wp2_with fail
          refine (crash_any sec_enc _ _ _ k E4.out hun.out 6 (by decide)).mono ?_
          rintro e x4 ⟨rfl, ht⟩
          have D5 := Lib.hid (D4.out.aside ht.1 X4.out)
          obtain ⟨hK, S5, hD5, hS5⟩ := ht
          have E5 := Lib.hid hD5
          have L5 := Lib.hid (L4.out.trans (hK.below E3S.out L4.out.size))
          clear hK hD5 hS5 D4 E4 L4 X4 E3S
          have C5 := Lib.hid (C.out.crash 6)
          go_wp2_with fail
          refine (seen_any _ _ _ j _ D5.out C5.out).mono ?_
          rintro e x5 ⟨rfl, hb⟩
          have E6 := Lib.hid (E5.out.below hb)
          have L6 := Lib.hid (L5.out.trans (hb.mono L5.out.size))
          clear hb E5 D5 L5
          go_wp2_with fail
          refine (seen_any _ _ _ j _ E6.out C5.out).mono ?_
          rintro e x6 ⟨rfl, hb⟩
          have L7 := Lib.hid (L6.out.trans (hb.mono L6.out.size))
          clear hb E6 L6
          go_wp2
          go_ret
          exact ⟨rfl, L7.out⟩

theorem apart_contract (H : Type) (enc : TypeId × Value → H) (W : World) (base : Nat) (args : Array Value) (ds gs : List (DataW H)) (before : List MemPlace)
    (hval : ∀ (j : Nat) t v, Try.f7.params[j]? = some t → args[j]? = some v → Value.okWide Try.prog W .any base t v)
    (hW : DataW.Whole enc Try.prog Try.f7.params.toList Rows.diskApartSpec.vars false W args.toList ds gs before) :
    Calls Try.prog 7 args W fun e W' => ∃ v, e = .returned v ∧ Rows.diskApartSpec.post enc Try.prog Try.f7 false true false false W args v W' := by
  have hW' := hW
  have hlt : ∀ x ∈ before, x.block < W.heap.size := fun x hx => hW.lt x hx
  obtain ⟨p, q, hA0, hV, rfl, _, _⟩ := hW
  have hA : DataW.TrodAll enc Try.prog W 0 (fun _ => true) true Try.f7.params.toList args.toList ds p := hA0
  rw [Try.params7] at hA hval
  obtain ⟨v0, vs0, d0, ds0, p0, q0, hargs, rfl, rfl, h0, r0⟩ := trodAll_cons hA
  obtain ⟨v1, vs1, d1, ds1, p1, q1, rfl, rfl, rfl, h1, r1⟩ := trodAll_cons r0
  obtain ⟨rfl, rfl, rfl⟩ := trodAll_nil r1
  obtain rfl : args = #[v0, v1] := by cases args; simp_all
  obtain ⟨rfl, rfl⟩ := trodVars_none hV
  clear hA0
  obtain ⟨A0, n0, c0, l0, rfl, hn0, hc0, hm0, hr0⟩ := open_actsL (hval 0 22 v0 rfl rfl) h0 (fun x hx => hlt x (by simp [hx]))
  unfold maxLen at hm0
  obtain ⟨A1, n1, c1, l1, rfl, hn1, hc1, hm1, hr1⟩ := open_actsL (hval 1 22 v1 rfl rfl) h1 (fun x hx => hlt x (by simp [hx]))
  unfold maxLen at hm1
  refine (apart_walk l0 l1 A0 A1 n0 n1 c0 c1 W hn0 hc0 (by omega) hr0 hn1 hc1 (by omega) hr1).mono fun e W' ⟨he, hb⟩ => ?_
  subst he
  exact ⟨_, rfl, law_post laid (by kernel_rfl) Try.underlying4 (by rw [Try.params7]; decide +kernel) rfl hW' ⟨rfl, rfl, rfl⟩ hb⟩

set_option maxRecDepth 100000 in
theorem apart_lifted (os : Os) (started : os.Started) (H : Type) (enc : TypeId × Value → H) :
    ReturnsInHanded {} Try.checked os 7 .any (Rows.diskApartSpec.pre6 enc Try.prog Try.f7 Rows.diskApartRow.domain false) (Rows.diskApartSpec.post enc Try.prog Try.f7 false true false false) := by
  refine returnsInHanded_of_change (C := Try.checked) own started (by kernel_rfl) Try.func7
    (ChangeSpec.witness6 (enc := enc) (C := Try.checked) false ⟨#[], #[.slice none 0 0, .slice none 0 0], []⟩ 8 (by kernel_rfl) (by kernel_rfl) (by kernel_rfl) (by kernel_rfl)) ?_
  intro W base args ds gs before hval hW _ _
  exact apart_contract H enc W base args ds gs before hval hW

/-- DiskApart is true for every input. -/
theorem apart_holds : Rows.DiskApartSaid :=
  OpenClaim.holds_of_wide 7 Try.f7 rfl rfl rfl rfl rfl rfl rfl ⟨rfl, rfl, rfl, rfl, rfl⟩ rfl rfl rfl rfl rfl (by kernel_rfl) Try.func7 (by kernel_rfl)
    (of_decide_eq_true (by kernel_rfl)) (by unfold Func.isWrapper; first | (rw [if_pos (by decide +kernel)]; kernel_rfl) | (rw [if_neg (by decide +kernel)]; exact ⟨rfl, rfl⟩))
    (fun os started H enc _ => apart_lifted os started H enc)
end Go.Proofs.Ytnebenkodpnofaa
