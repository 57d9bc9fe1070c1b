/-
  BitsFull: whatever the bytes, what is made 1, one after the other, from the first one that is 0 on, is all in the end, and counted so.
-/
import Derived.Test.YtobjkknemnekjaaF
import Derived.Test.YtobjkknemnekjaaE
namespace Go.Proofs.Ytobjkknemnekjaa
open Go.ChangeShapes Go.WideShapes Go.ChangeAt Go.RowKit

/-- What stands while bits are made 1: bytes of which so many are. -/
structure Filling (w : World) (q m : Nat) (v : Value) (wr : World) (K : List UInt8) (A : Option Addr) (c : Nat) : Prop where
  val : v = .slice A q c
  len : K.length = q
  num : all1 K = m
  rd : Rd wr wr.heap.size A (bytesV K)
  bel : Below w.heap.size w wr
theorem Filling.next {w wr : World} {q m : Nat} {v : Value} {K : List UInt8} {A : Option Addr} {c : Nat} (h : Filling w q m v wr K A c) (hm : m < 8 * q) :
    ∃ i : Nat, fstV (fst K 0 (8 * (q : Int)) false (8 * K.length)) = .tuple #[.int .i64 (i : Int), .bool true] ∧ i < 8 * q ∧ (wb K i true).length = q ∧ all1 (wb K i true) = m + 1 := by
  obtain ⟨i, h1, h2, h3⟩ := fst_zero K (by rw [h.num, h.len]; exact hm)
  rw [h.len] at h1
  refine ⟨i, by rw [h.len, h1]; rfl, by rw [← h.len]; exact h2, by rw [length_wb, h.len], by rw [all1_on K i h2 h3, h.num]⟩
theorem Filling.done {w wr : World} {q m : Nat} {v : Value} {K : List UInt8} {A : Option Addr} {c : Nat} (h : Filling w q m v wr K A c) (hm : m = 8 * q) :
    fstV (fst K 0 (8 * (q : Int)) false (8 * K.length)) = .tuple #[.int .i64 0, .bool false] := by
  have h1 := fst_full K (by rw [h.num, h.len]; exact hm)
  rw [h.len] at h1
  rw [h.len, h1]; rfl

set_option maxHeartbeats 800000 in
theorem full_ok (k : List UInt8) (A : Option Addr) (n c q : Nat) (w : World) (hkq : k.length = q) (hq : q = min n 40) (hr : Rd w w.heap.size A (bytesV k)) (hc : n ≤ c) (hm : n ≤ 9223372036854775807) :
    Calls Try.prog 7 #[.slice A n c] w fun e w' => e = .returned (.bool true) ∧ Below w.heap.size w w' := by
  have Hk := Lib.hid hkq
  have HR := Lib.hid hr
  have Hq := Lib.hid hq
  have hq5 : q ≤ 40 := by omega
  obtain ⟨n0, hn0⟩ : ∃ n0, n0 = all1 k := ⟨_, rfl⟩
  have hn0q : n0 ≤ 8 * q := by rw [hn0, ← hkq]; exact all1_le k
  have HN := Lib.hid hn0
  have HC : Hid (cnt k 0 (8 * (q : Int)) (8 * k.length) = n0) := Lib.hid (by rw [hn0, ← hkq]; rfl)
  clear hkq hr hq hn0
  go_enter Try.func7, Try.ntmps7
  go_wp2_with (go_at_call 9; refine (shown_any _).mono ?_; rintro e w1 ⟨rfl, hb1⟩; have HB1 := Lib.hid hb1; clear hb1)
  case' inl => rw [show (40 : Nat) = q by have := Hq.out; omega, show (max 40 0 : Int) = (q : Int) by have := Hq.out; omega]
  case' inr => rw [show n = q by have := Hq.out; omega]
  all_goals
    clear hm
    refine (count_any k A q c _ 0 (8 * (q : Int)) _ Hk.out (HR.out.below HB1.out) (by omega) (by omega)).mono ?_
    rintro e w2 ⟨rfl, m2, hw2⟩
    have HB2 := Lib.hid (by rw [hw2]; exact below_drewN HB1.out m2 : Below w.heap.size w w2)
    clear hw2
    rw [HC.out]
    go_wp2_with fail
    go_loopw [4, 5, 28] (fun v u z wr => ∃ j : Nat, j ≤ 8 * q - n0 ∧ z = .int .i64 (j : Int) ∧ ∃ m : Nat, m = n0 + j ∧ u = .int .i64 (m : Int) ∧ ∃ K A' c', Filling w q m v wr K A' c') (fun _ _ z _ => 8 * q - n0 - (intOf z).toNat)
    case atStart => exact ⟨0, by omega, rfl, n0, rfl, rfl, k, A, c, rfl, Hk.out, HN.out.symm, (HR.out.below HB2.out).more HB2.out.size, HB2.out⟩
    case round =>
      obtain ⟨j, hj, rfl, m, hmj, rfl, K, A', c', hF⟩ := hrel
      have hval := hF.val
      subst hval
      have HF := Lib.hid hF
      have HL := Lib.hid hF.len
      have HB := Lib.hid hF.bel
      by_cases hlt : m < 8 * q
      · obtain ⟨i, h1, hi, h3, h4⟩ := hF.next hlt
        have H1 := Lib.hid h1
        obtain ⟨K', hK'⟩ : ∃ K', K' = wb K i true := ⟨_, rfl⟩
        rw [← hK'] at h3 h4
        have HK' := Lib.hid hK'
        have H3 := Lib.hid h3
        have H4 := Lib.hid h4
        have HC' : Hid (cnt K' 0 (8 * (q : Int)) (8 * K'.length) = m + 1) := Lib.hid (by rw [← h4, ← h3]; rfl)
        clear hF h1 hK' h3 h4
        go_wp2_with fail
        refine (first_any K A' q c' _ 0 (8 * (q : Int)) false _ HL.out HF.out.rd (by omega) (by omega)).mono ?_
        rintro e w3 ⟨rfl, m3, hw3⟩
        rw [H1.out]
        have HB3 := Lib.hid (by rw [hw3]; exact below_drewN HB.out m3 : Below w.heap.size w w3)
        have HR3 := Lib.hid (by rw [hw3]; exact HF.out.rd.drewN m3 : Rd w3 w3.heap.size A' (bytesV K))
        clear hw3
        go_wp2_with fail
        refine (with_ok K A' q c' i true _ HL.out HR3.out hi (by omega)).mono ?_
        rintro e w4 ⟨v4, rfl, hown4, hb4⟩
        rw [← HK'.out, H3.out] at hown4
        obtain ⟨g4, c4, rfl, hc4⟩ := own_pos hown4 (by omega)
        have HR4 := Lib.hid (own_rdp hown4)
        have HB4 := Lib.hid (HB3.out.trans (hb4.mono HB3.out.size))
        clear hb4 hown4
        go_wp2_with fail
        refine (count_any K' _ q c4 _ 0 (8 * (q : Int)) _ H3.out HR4.out (by omega) (by omega)).mono ?_
        rintro e w5 ⟨rfl, m5, hw5⟩
        have HB5 := Lib.hid (by rw [hw5]; exact below_drewN HB4.out m5 : Below w.heap.size w w5)
        have HR5 := Lib.hid (by rw [hw5]; exact HR4.out.drewN m5 : Rd w5 w5.heap.size (some ⟨g4, 0, none⟩) (bytesV K'))
        rw [HC'.out]
        clear hw5
        have hne : (((m + 1 : Nat) : Int) != (m : Int) + 1) = false := by simp
        go_wp2_with fail
        go_roundw
        case rel => exact ⟨j + 1, by omega, by go_num, m + 1, by omega, by go_num, K', _, c4, rfl, H3.out, H4.out, HR5.out, HB5.out⟩
        case measure => simp [intOf]; omega
      · have hm8 : m = 8 * q := by omega
        have H1 := Lib.hid (hF.done hm8)
        clear hF
        go_wp2_with fail
        refine (first_any K A' q c' _ 0 (8 * (q : Int)) false _ HL.out HF.out.rd (by omega) (by omega)).mono ?_
        rintro e w3 ⟨rfl, m3, hw3⟩
        rw [H1.out]
        have HB3 := Lib.hid (by rw [hw3]; exact below_drewN HB.out m3 : Below w.heap.size w w3)
        clear hw3
        go_wp2_with fail
        go_ret
        exact ⟨ret_bool (by rw [beq_iff_eq]; omega), HB3.out⟩

theorem full_walk (l : List UInt8) (A : Option Addr) (n c : Nat) (w : World) (hn : l.length = n) (hr : Rd w w.heap.size A (bytesV l)) (hc : n ≤ c) (hm : n ≤ 9223372036854775807) :
    Calls Try.prog 7 #[.slice A n c] w fun e w' => e = .returned (.bool true) ∧ Below w.heap.size w w' := by
  have hr6 := hr.take 40
  rw [← bytesV_take] at hr6
  exact full_ok (l.take 40) A n c (min n 40) w (by rw [List.length_take, hn]; omega) rfl hr6 hc hm

theorem full_contract (H : Type) (enc : TypeId × Value → H) (W : World) (base : Nat) (args : Array Value) (ds gs : List (DataW H)) (before : List MemPlace)
    (hval : ∀ (j : Nat) t v, Try.f7.params[j]? = some t → args[j]? = some v → Value.okWide Try.prog W .any base t v)
    (hW : DataW.Whole enc Try.prog Try.f7.params.toList Rows.bitsFullSpec.vars false W args.toList ds gs before) :
    Calls Try.prog 7 args W fun e W' => ∃ v, e = .returned v ∧ Rows.bitsFullSpec.post enc Try.prog Try.f7 false true false false W args v W' := by
  have hW' := hW
  have hlt : ∀ x ∈ before, x.block < W.heap.size := fun x hx => hW.lt x hx
  obtain ⟨p, q, hA0, hV, rfl, _, _⟩ := hW
  have hA : DataW.TrodAll enc Try.prog W 0 (fun _ => true) true Try.f7.params.toList args.toList ds p := hA0
  rw [Try.params7] at hA hval
  obtain ⟨v0, vs0, d0, ds0, p0, q0, hargs, rfl, rfl, h0, r0⟩ := trodAll_cons hA
  obtain ⟨rfl, rfl, rfl⟩ := trodAll_nil r0
  obtain rfl : args = #[v0] := by cases args; simp_all
  obtain ⟨rfl, rfl⟩ := trodVars_none hV
  clear hA0
  obtain ⟨A0, n0, c0, l0, rfl, hn0, hc0, hm0, hr0⟩ := open_bytesL Try.underlying22 Try.underlying5 cells5 (hval 0 22 v0 rfl rfl) h0 (fun x hx => hlt x (by simp [hx]))
  unfold maxLen at hm0
  refine (full_walk l0 A0 n0 c0 W hn0 hr0 hc0 (by omega)).mono fun e W' ⟨he, hb⟩ => ?_
  subst he
  exact ⟨_, rfl, law_post laid (by kernel_rfl) Try.underlying4 (by rw [Try.params7]; decide +kernel) rfl hW' ⟨rfl, rfl, rfl⟩ hb⟩

set_option maxRecDepth 100000 in
theorem full_lifted (os : Os) (started : os.Started) (H : Type) (enc : TypeId × Value → H) :
    ReturnsInHanded {} Try.checked os 7 .any (Rows.bitsFullSpec.pre6 enc Try.prog Try.f7 Rows.bitsFullRow.domain false) (Rows.bitsFullSpec.post enc Try.prog Try.f7 false true false false) := by
  refine returnsInHanded_of_change (C := Try.checked) own started (by kernel_rfl) Try.func7
    (ChangeSpec.witness6 (enc := enc) (C := Try.checked) false ⟨#[], #[.slice none 0 0], []⟩ 8 (by kernel_rfl) (by kernel_rfl) (by kernel_rfl) (by kernel_rfl)) ?_
  intro W base args ds gs before hval hW _ _
  exact full_contract H enc W base args ds gs before hval hW

/-- BitsFull is true for every input. -/
theorem full_holds : Rows.BitsFullSaid :=
  OpenClaim.holds_of_wide 7 Try.f7 rfl rfl rfl rfl rfl rfl rfl ⟨rfl, rfl, rfl, rfl, rfl⟩ rfl rfl rfl rfl rfl (by kernel_rfl) Try.func7 (by kernel_rfl)
    (of_decide_eq_true (by kernel_rfl)) (by unfold Func.isWrapper; first | (rw [if_pos (by decide +kernel)]; kernel_rfl) | (rw [if_neg (by decide +kernel)]; exact ⟨rfl, rfl⟩))
    (fun os started H enc _ => full_lifted os started H enc)
end Go.Proofs.Ytobjkknemnekjaa
