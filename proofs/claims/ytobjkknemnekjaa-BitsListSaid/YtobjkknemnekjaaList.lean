/-
  BitsList: whatever the bytes and the two numbers, what is counted is listed, the first one is the first of the list, and the parts of a list are counted as it is.
-/
import Derived.Test.YtobjkknemnekjaaF
import Derived.Test.YtobjkknemnekjaaG
namespace Go.Proofs.Ytobjkknemnekjaa
open Go.ChangeShapes Go.WideShapes Go.ChangeAt Go.RowKit

theorem has_val {l : List UInt8} {A : Option Addr} {n c B : Nat} {x : Int} {w : World} {v : Bool} (hn : l.length = n) (hr : Rd w B A (bytesV l)) (hm : n ≤ 100000000) (hv : hbI l x = v) (m : Nat) :
    Calls Try.prog 13 #[.slice A n c, .int .i64 x] (w.drewN m) fun e w' => e = .returned (.bool v) ∧ ∃ k, w' = (w.drewN m).drewN k := by
  rw [← hv]
  exact has_any l A n c B x (w.drewN m) hn (hr.drewN m) hm

theorem all1_ones_q {l : List UInt8} {L : List Nat} {p : Nat} (hL : L = ones l) (hp : p = L.length) : all1 l = p := by rw [hp, hL, all1_ones]

set_option maxRecDepth 100000 in
set_option maxHeartbeats 3200000 in
theorem list_ok (k : List UInt8) (A : Option Addr) (n c q : Nat) (x y : Int) (w : World) (hkq : k.length = q) (hq6 : q ≤ 600) (hr : Rd w w.heap.size A (bytesV k))
    (Few : Hid (∀ w, Calls Try.prog 10 #[.slice A n c] w fun e w' => e = .returned (.slice A q c) ∧ w = w')) (hx : x ≤ 9223372036854775807) :
    Calls Try.prog 6 #[.slice A n c, .int .i64 x, .int .i64 y] w fun e w' => e = .returned (.bool true) ∧ Below w.heap.size w w' := by
  have Hk := Lib.hid hkq
  have HR := Lib.hid hr
  obtain ⟨L, hL⟩ : ∃ L, L = ones k := ⟨_, rfl⟩
  obtain ⟨p, hp⟩ : ∃ p, p = L.length := ⟨_, rfl⟩
  have HL := Lib.hid hL
  have HP := Lib.hid hp
  have hp8 : p ≤ 8 * q := by rw [hp, hL, ← hkq]; exact onesTo_len k _
  have HUp : Hid (∀ i, (h : i + 1 < L.length) → L[i] < L[i + 1]) := Lib.hid (by subst hL; exact ones_next k)
  have HHb : Hid (∀ i, (h : i < L.length) → hbI k ((L[i] : Nat) : Int) = true) := Lib.hid (by subst hL; intro i h; rw [hbI_nat]; exact ones_hb k i h)
  have HLt : Hid (∀ i, (h : i < L.length) → L[i] < 8 * q) := Lib.hid (by subst hL; intro i h; rw [← hkq]; exact ones_lt k i h)
  clear hkq hr hL hp
  go_enter Try.func6, Try.ntmps6
  go_wp2_with (first
    | (go_at_call 9; refine (shown_any _).mono ?_; rintro e w1 ⟨rfl, hb1⟩; have HB1 := Lib.hid hb1; clear hb1)
    | (go_at_call 10; refine (Few.out _).mono ?_; rintro e w' ⟨rfl, rfl⟩)
    | (go_at_call 20; refine (list_any k A q c _ Hk.out ((HR.out.below HB1.out).more HB1.out.size) (by omega)).mono ?_; rintro e w2 ⟨v2, rfl, hown2, hb2⟩; rw [← HL.out, ← HP.out] at hown2; obtain ⟨_, A2, c2, rfl, hc2, hm2, hrd2⟩ := own_rd hown2; have HR2 := Lib.hid hrd2; have HB2 := Lib.hid (HB1.out.trans (hb2.mono HB1.out.size)); clear hb2 hown2 hrd2))
  go_loopw [10, 11, 12, 24] (fun u v s z wr => ∃ j : Nat, j ≤ p ∧ z = .int .i64 (j : Int) ∧ ∃ (m f : Nat) (is : Bool), u = .int .i64 (m : Int) ∧ v = .int .i64 (f : Int) ∧ s = .bool is ∧ Seen L x y j m f is ∧ Hid (∃ t, wr = w2.drewN t)) (fun _ _ _ z _ => p - (intOf z).toNat)
  case atStart => exact ⟨0, by omega, rfl, 0, 0, false, rfl, rfl, rfl, Seen.start L x y, Lib.hid (drew_nil w2)⟩
  case round =>
    obtain ⟨j, hj, rfl, m, f, is, rfl, rfl, rfl, hS, Hw⟩ := hrel
    have HB := Lib.hid (by obtain ⟨t, ht⟩ := Hw.out; rw [ht]; exact below_drewN HB2.out t : Below w.heap.size w wr)
    have HRr := Lib.hid (by obtain ⟨t, ht⟩ := Hw.out; rw [ht]; exact HR2.out.drewN t : Rd wr w2.heap.size A2 (natsV L))
    have hmj := hS.le
    by_cases hlt : j < p
    · have hjl : j < L.length := by rw [← HP.out]; exact hlt
      rcases rd_nat HRr.out with h | ⟨b, o, rfl, _, hc⟩
      · exfalso; rw [h] at hjl; simp at hjl
      have hcell := hc j _ (List.getElem?_eq_getElem hjl)
      have hyv := HHb.out j hjl
      have hylt := HLt.out j hjl
      have HSo := Lib.hid (fun h => hS.out hjl h)
      have HS1 := Lib.hid (fun (h : is = false) => Seen.in1 (h ▸ hS) hjl)
      have HS2 := Lib.hid (fun (h : is = true) => Seen.in2 (h ▸ hS) hjl)
      obtain ⟨z, hz⟩ : ∃ z, z = L[j] := ⟨_, rfl⟩
      have hprev : j = 0 ∨ ∃ i, j = i + 1 ∧ ∃ r : Nat, wr.cell? ⟨b, o + i, none⟩ = some (.int .i64 (r : Int)) ∧ r < z := by
        rcases Nat.eq_zero_or_pos j with h | h
        · exact .inl h
        · obtain ⟨i, rfl⟩ : ∃ i, j = i + 1 := ⟨j - 1, by omega⟩
          exact .inr ⟨i, rfl, L[i], hc i _ (List.getElem?_eq_getElem (by omega)), by rw [hz]; exact HUp.out i hjl⟩
      rw [← hz] at hcell hyv hylt HSo HS1 HS2
      have HV := Lib.hid hyv
      clear hc hyv hS hz
      have hp0 : (p : Int) ≤ 4800 := by omega
      rcases hprev with rfl | ⟨i, rfl, r, hcell', hrz⟩
      · have hi0 : (0 : Int) < (p : Int) := by omega
        rw [Nat.add_zero] at hcell
        go_wp2_with fail
        go_quiet ((go_at_call 13; exact Calls.quiet_of (has_val Hk.out (HR.out.below HB.out) (by omega) HV.out _)))
        have HW2 : Hid (∃ t, wr.drewN nq = w2.drewN t) := Lib.hid (by obtain ⟨t, ht⟩ := Hw.out; exact ⟨t + nq, by rw [ht, World.drewN_drewN]⟩)
        by_cases h1 : x ≤ (z : Int)
        · by_cases h2 : (z : Int) < y
          · have hin : inb x y z = true := by simp [inb, h1, h2]
            cases is with
            | false =>
              have HS := Lib.hid (HS1.out rfl hin)
              clear hin
              go_wp2_with fail
              go_roundw
              case rel => exact ⟨0 + 1, by omega, by go_num, m + 1, z, true, by go_num, rfl, rfl, HS.out, HW2⟩
              case measure => simp [intOf]; omega
            | true =>
              have HS := Lib.hid (HS2.out rfl hin)
              clear hin
              go_wp2_with fail
              go_roundw
              case rel => exact ⟨0 + 1, by omega, by go_num, m + 1, f, true, by go_num, rfl, rfl, HS.out, HW2⟩
              case measure => simp [intOf]; omega
          · have HS := Lib.hid (HSo.out (by simp [inb, h2]))
            go_wp2_with fail
            go_roundw
            case rel => exact ⟨0 + 1, by omega, by go_num, m, f, is, rfl, rfl, rfl, HS.out, HW2⟩
            case measure => simp [intOf]; omega
        · have HS := Lib.hid (HSo.out (by simp [inb, h1]))
          go_wp2_with fail
          go_roundw
          case rel => exact ⟨0 + 1, by omega, by go_num, m, f, is, rfl, rfl, rfl, HS.out, HW2⟩
          case measure => simp [intOf]; omega
      · have hi0 : (0 : Int) ≤ (i : Int) := Int.natCast_nonneg _
        have hi1 : (i : Int) < (p : Int) := by omega
        have hi2 : (0 : Int) ≤ (i : Int) + 1 := by omega
        have hi3 : (i : Int) + 1 < (p : Int) := by omega
        have hw1 : IntKind.i64.wrap ((i : Int) + 1 - 1) = (i : Int) := by rw [IntKind.wrap_i64]; omega
        have hw2 : IntKind.i64.wrap (i : Int) = (i : Int) := by rw [IntKind.wrap_i64]; omega
        have hd0 : decide ((0 : Int) < (i : Int) + 1) = true := decide_eq_true (by omega)
        have hd1 : decide ((z : Int) ≤ (r : Int)) = false := decide_eq_false (by omega)
        go_wp2_with fail
        go_quiet ((go_at_call 13; exact Calls.quiet_of (has_val Hk.out (HR.out.below HB.out) (by omega) HV.out _)))
        have HW2 : Hid (∃ t, wr.drewN nq = w2.drewN t) := Lib.hid (by obtain ⟨t, ht⟩ := Hw.out; exact ⟨t + nq, by rw [ht, World.drewN_drewN]⟩)
        by_cases h1 : x ≤ (z : Int)
        · by_cases h2 : (z : Int) < y
          · have hin : inb x y z = true := by simp [inb, h1, h2]
            cases is with
            | false =>
              have HS := Lib.hid (HS1.out rfl hin)
              clear hin
              go_wp2_with fail
              go_roundw
              case rel => exact ⟨i + 1 + 1, by omega, by go_num, m + 1, z, true, by go_num, rfl, rfl, HS.out, HW2⟩
              case measure => simp [intOf]; omega
            | true =>
              have HS := Lib.hid (HS2.out rfl hin)
              clear hin
              go_wp2_with fail
              go_roundw
              case rel => exact ⟨i + 1 + 1, by omega, by go_num, m + 1, f, true, by go_num, rfl, rfl, HS.out, HW2⟩
              case measure => simp [intOf]; omega
          · have HS := Lib.hid (HSo.out (by simp [inb, h2]))
            go_wp2_with fail
            go_roundw
            case rel => exact ⟨i + 1 + 1, by omega, by go_num, m, f, is, rfl, rfl, rfl, HS.out, HW2⟩
            case measure => simp [intOf]; omega
        · have HS := Lib.hid (HSo.out (by simp [inb, h1]))
          go_wp2_with fail
          go_roundw
          case rel => exact ⟨i + 1 + 1, by omega, by go_num, m, f, is, rfl, rfl, rfl, HS.out, HW2⟩
          case measure => simp [intOf]; omega
    · have hjp : j = p := by omega
      obtain ⟨e1, e2, e3⟩ := Seen.done (l := k) (by rw [← HL.out]; exact hS) (by rw [← HL.out, hjp]; exact HP.out)
      have HF : Hid (fstV (fst k x y true (8 * k.length)) = .tuple #[.int .i64 (f : Int), .bool is]) := Lib.hid (by unfold fstV; rw [e2, e3])
      have HC1 := Lib.hid e1
      have HC2 : Hid (cnt k 0 (8 * (q : Int)) (8 * k.length) = p) := Lib.hid (by rw [HP.out, HL.out, ← all1_ones, ← Hk.out]; rfl)
      obtain ⟨c3, h3⟩ : ∃ c3, c3 = cnt k 0 (4 * (q : Int)) (8 * k.length) := ⟨_, rfl⟩
      obtain ⟨c4, h4⟩ : ∃ c4, c4 = cnt k (4 * (q : Int)) (8 * (q : Int)) (8 * k.length) := ⟨_, rfl⟩
      have h34 : c3 + c4 = p := by
        have := cnt_split k (4 * q)
        rw [← all1_ones_q HL.out HP.out, ← this, h3, h4, Hk.out]
        simp
      have h34' : (c3 : Int) + (c4 : Int) = (p : Int) := by omega
      have HC3 := Lib.hid h3.symm
      have HC4 := Lib.hid h4.symm
      clear hS e1 e2 e3 h3 h4 h34
      subst hjp
      go_wp2_with fail
      refine (first_any k A q c _ x y true _ Hk.out (HR.out.below HB.out) (by omega) hx).mono ?_
      rintro e w3 ⟨rfl, m3, hw3⟩
      rw [HF.out]
      have HB3 := Lib.hid (by rw [hw3]; exact below_drewN HB.out m3 : Below w.heap.size w w3)
      clear hw3
      go_wp2_with fail
      refine (count_any k A q c _ x y _ Hk.out (HR.out.below HB3.out) (by omega) hx).mono ?_
      rintro e w4 ⟨rfl, m4, hw4⟩
      rw [HC1.out]
      have HB4 := Lib.hid (by rw [hw4]; exact below_drewN HB3.out m4 : Below w.heap.size w w4)
      clear hw4
      go_wp2_with fail
      refine (count_any k A q c _ 0 (8 * (q : Int)) _ Hk.out (HR.out.below HB4.out) (by omega) (by omega)).mono ?_
      rintro e w5 ⟨rfl, m5, hw5⟩
      rw [HC2.out]
      have HB5 := Lib.hid (by rw [hw5]; exact below_drewN HB4.out m5 : Below w.heap.size w w5)
      clear hw5
      go_wp2_with fail
      refine (count_any k A q c _ 0 (4 * (q : Int)) _ Hk.out (HR.out.below HB5.out) (by omega) (by omega)).mono ?_
      rintro e w6 ⟨rfl, m6, hw6⟩
      rw [HC3.out]
      have HB6 := Lib.hid (by rw [hw6]; exact below_drewN HB5.out m6 : Below w.heap.size w w6)
      clear hw6
      go_wp2_with fail
      refine (count_any k A q c _ (4 * (q : Int)) (8 * (q : Int)) _ Hk.out (HR.out.below HB6.out) (by omega) (by omega)).mono ?_
      rintro e w7 ⟨rfl, m7, hw7⟩
      rw [HC4.out]
      have HB7 := Lib.hid (by rw [hw7]; exact below_drewN HB6.out m7 : Below w.heap.size w w7)
      clear hw7
      go_wp2_with fail
      go_ret
      exact ⟨rfl, HB7.out⟩

theorem list_walk (l : List UInt8) (A : Option Addr) (n c : Nat) (x y : Int) (w : World) (hn : l.length = n) (hr : Rd w w.heap.size A (bytesV l)) (hc : n ≤ c) (hm : n ≤ 9223372036854775807) (hx : x ≤ 9223372036854775807) :
    Calls Try.prog 6 #[.slice A n c, .int .i64 x, .int .i64 y] w fun e w' => e = .returned (.bool true) ∧ Below w.heap.size w w' := by
  have hr6 := hr.take 600
  rw [← bytesV_take] at hr6
  exact list_ok (l.take 600) A n c (min n 600) x y w (by rw [List.length_take, hn]; omega) (by omega) hr6 (Lib.hid fun w => few_any A n c w hc hm) hx

theorem list_contract (H : Type) (enc : TypeId × Value → H) (W : World) (base : Nat) (args : Array Value) (ds gs : List (DataW H)) (before : List MemPlace)
    (hval : ∀ (j : Nat) t v, Try.f6.params[j]? = some t → args[j]? = some v → Value.okWide Try.prog W .any base t v)
    (hW : DataW.Whole enc Try.prog Try.f6.params.toList Rows.bitsListSpec.vars false W args.toList ds gs before) :
    Calls Try.prog 6 args W fun e W' => ∃ v, e = .returned v ∧ Rows.bitsListSpec.post enc Try.prog Try.f6 false true false false W args v W' := by
  have hW' := hW
  have hlt : ∀ x ∈ before, x.block < W.heap.size := fun x hx => hW.lt x hx
  obtain ⟨p, q, hA0, hV, rfl, _, _⟩ := hW
  have hA : DataW.TrodAll enc Try.prog W 0 (fun _ => true) true Try.f6.params.toList args.toList ds p := hA0
  rw [Try.params6] at hA hval
  obtain ⟨v0, vs0, d0, ds0, p0, q0, hargs, rfl, rfl, h0, r0⟩ := trodAll_cons hA
  obtain ⟨v1, vs1, d1, ds1, p1, q1, rfl, rfl, rfl, h1, r1⟩ := trodAll_cons r0
  obtain ⟨v2, vs2, d2, ds2, p2, q2, rfl, rfl, rfl, h2, r2⟩ := trodAll_cons r1
  obtain ⟨rfl, rfl, rfl⟩ := trodAll_nil r2
  obtain rfl : args = #[v0, v1, v2] := by cases args; simp_all
  obtain ⟨rfl, rfl⟩ := trodVars_none hV
  clear hA0
  obtain ⟨A0, n0, c0, l0, rfl, hn0, hc0, hm0, hr0⟩ := open_bytesL Try.underlying22 Try.underlying5 cells5 (hval 0 22 v0 rfl rfl) h0 (fun x hx => hlt x (by simp [hx]))
  unfold maxLen at hm0
  obtain ⟨a1, rfl, rfl, rfl, wa1⟩ := open_int Try.underlying3 (hval 1 3 v1 rfl rfl) h1
  have bd1 := bounds_i64 wa1
  obtain ⟨a2, rfl, rfl, rfl, wa2⟩ := open_int Try.underlying3 (hval 2 3 v2 rfl rfl) h2
  have bd2 := bounds_i64 wa2
  refine (list_walk l0 A0 n0 c0 a1 a2 W hn0 hr0 hc0 (by omega) (by omega)).mono fun e W' ⟨he, hb⟩ => ?_
  subst he
  exact ⟨_, rfl, law_post laid (by kernel_rfl) Try.underlying4 (by rw [Try.params6]; decide +kernel) rfl hW' ⟨rfl, rfl, rfl⟩ hb⟩

set_option maxRecDepth 100000 in
theorem list_lifted (os : Os) (started : os.Started) (H : Type) (enc : TypeId × Value → H) :
    ReturnsInHanded {} Try.checked os 6 .any (Rows.bitsListSpec.pre6 enc Try.prog Try.f6 Rows.bitsListRow.domain false) (Rows.bitsListSpec.post enc Try.prog Try.f6 false true false false) := by
  refine returnsInHanded_of_change (C := Try.checked) own started (by kernel_rfl) Try.func6
    (ChangeSpec.witness6 (enc := enc) (C := Try.checked) false ⟨#[], #[.slice none 0 0, .int .i64 0, .int .i64 0], []⟩ 8 (by kernel_rfl) (by kernel_rfl) (by kernel_rfl) (by kernel_rfl)) ?_
  intro W base args ds gs before hval hW _ _
  exact list_contract H enc W base args ds gs before hval hW

/-- BitsList is true for every input. -/
theorem list_holds : Rows.BitsListSaid :=
  OpenClaim.holds_of_wide 6 Try.f6 rfl rfl rfl rfl rfl rfl rfl ⟨rfl, rfl, rfl, rfl, rfl⟩ rfl rfl rfl rfl rfl (by kernel_rfl) Try.func6 (by kernel_rfl)
    (of_decide_eq_true (by kernel_rfl)) (by unfold Func.isWrapper; first | (rw [if_pos (by decide +kernel)]; kernel_rfl) | (rw [if_neg (by decide +kernel)]; exact ⟨rfl, rfl⟩))
    (fun os started H enc _ => list_lifted os started H enc)
end Go.Proofs.Ytobjkknemnekjaa
