/-
  Statement JournalAgain: to open a journal again does nothing, and nothing is to be done again behind a commit that was OK. No condition.
-/
import Derived.Test.YtnkpmmijdkcdjaaN
namespace Go.Proofs.Ytnkpmmijdkcdjaa
open Go.RowKit Go.ChangeShapes Go.WideShapes Go.ChangeAt
attribute [local go_sem ↓] Go.wp_at_zero Go.wp_at_succ

set_option maxRecDepth 100000 in
set_option maxHeartbeats 6400000 in
theorem again_walk (l : List Act) (A : Option Addr) (n c : Nat) (w : World) (hn : l.length = n) (hc : n ≤ c) (hm : c ≤ 9223372036854775807) (hr : Acts w w.heap.size A l) :
    Calls Try.prog 5 #[.slice A n c] w fun e w' => e = .returned (.bool true) ∧ Below w.heap.size w w' := by
  have Hs := Lib.hid (shown_any w)
  have Hr := Lib.hid hr
  have Hn := Lib.hid hn
  clear hn hr
  go_enter Try.func5, Try.ntmps5
  go_wp2_with (go_at_call 9; refine Hs.out.mono ?_; rintro e w1 ⟨rfl, hb1⟩)
  refine (onew w1).mono ?_
  rintro e w2 ⟨b, rfl, hD2, hb2⟩
  have HD2 := Lib.hid hD2
  have HB1 := Lib.hid hb1.size
  have Hb2 := Lib.hid (hb1.trans (hb2.mono hb1.size))
  clear hD2 hb1 hb2
  go_wp2_with fail
  refine (oopen (B := w.heap.size) (q := 0) (HD2.out.less HB1.out) Hb2.out.size [] img_fresh rfl rfl (by omega)).mono ?_
  rintro e w3 ⟨v, rfl, hO⟩
  rcases hO with ⟨bj, k, rfl, hO3, hR3, _, hc3, _, hb3, _⟩ | ⟨h, _⟩
  rotate_left
  · exact absurd h (by decide)
  have HO3 := Lib.hid hO3
  have HR3 := Lib.hid hR3
  have Hb3 := Lib.hid (Hb2.out.trans hb3)
  clear hO3 hR3 hc3 hb3
  go_wp2_with fail
  have hF := few_any l A n c w3 Hn.out hc hm ((Hr.out.below Hb3.out).more Hb3.out.size)
  refine hF.mono ?_
  rintro e w' ⟨qn, rfl, hqn, hq40, h60, rfl⟩
  have H60 := Lib.hid h60
  clear h60 hF
  go_wp2
  go_loopw [6, 8, 10, 37] (fun j6 _ _ i37 wr => ∃ (i q bj : Nat) (k : Dk Sx), i ≤ qn ∧ i37 = .int .i64 (i : Int) ∧ j6 = .pointer (some ⟨bj, 0, none⟩) ∧ Ours w.heap.size wr bj b 12 48 q k ∧ State i k q (fun _ => True) ∧ Below w.heap.size w wr) (fun _ _ _ i37 _ => qn - (intOf i37).toNat)
  case atStart => exact ⟨0, 0, bj, k, Nat.zero_le _, rfl, rfl, HO3.out, .inl ⟨HR3.out, Nat.le_refl _, trivial⟩, Hb3.out⟩
  case round =>
    clear HO3 HR3
    obtain ⟨i, q, bj, k, hi, rfl, rfl, hO, hS, hb⟩ := hrel
    have HO := Lib.hid hO
    have HS := Lib.hid hS
    have Hb := Lib.hid hb
    clear hO hS hb
    by_cases hlt : i < qn
    · obtain ⟨b0, o, a, rfl, hb0, ha, hg, hs, c0, c1, c2, c3, c4, c5⟩ := (Hr.out.below Hb.out).at (i := i) (by rw [Hn.out]; omega)
      have Hg := Lib.hid hg
      have Hsets := Lib.hid hs
      have hln := Lib.hid (H60.out i a hlt ha)
      have hlc := hg.lc
      have hbc := hg.bc
      clear ha hg hs
      have hkind := Hg.out.kind
      have bA := Bk.new wr 41 [.int .u8 (a.kind : Int), .slice a.lA a.ln a.lc, .int .i64 a.at_, .int .u8 (a.c : Int), .slice a.bA a.bn a.bc, .int .u64 (a.there : Int)]
      have hbA : Below wr.heap.size wr (wr.alloc (.cells #[.int .u8 (a.kind : Int), .slice a.lA a.ln a.lc, .int .i64 a.at_, .int .u8 (a.c : Int), .slice a.bA a.bn a.bc, .int .u64 (a.there : Int)] 41)) := (Below.refl _ _).alloc (Nat.le_refl _) _
      have HbA := Lib.hid hbA
      have HbW := Lib.hid (Hb.out.trans (hbA.mono Hb.out.size))
      have HOA := Lib.hid (HO.out.below hbA)
      have hszA : (wr.alloc (.cells #[.int .u8 (a.kind : Int), .slice a.lA a.ln a.lc, .int .i64 a.at_, .int .u8 (a.c : Int), .slice a.bA a.bn a.bc, .int .u64 (a.there : Int)] 41)).heap.size = wr.heap.size + 1 := by simp
      have hlq := HS.out.le
      clear bA hbA
      by_cases h0 : a.kind % 6 = 0
      · skip
        have hk0 : ((a.kind : Int) % 6 == 0) = true := by rw [beq_iff_eq]; omega
        go_wp2_with fail
        refine (patches_any a.kind a.lA a.ln a.lc (.int .i64 a.at_) (.int .u8 (a.c : Int)) (.slice a.bA a.bn a.bc) (.int .u64 (a.there : Int)) rfl rfl rfl rfl hkind (by omega) a.sets Hg.out.len (by have := hln.out; omega) _ ((Hsets.out.below ((Below.refl _ wr).alloc Hb.out.size _)).more (by have := Hb.out.size; simp; omega)) (fun s hs => (Hg.out.sets s hs).2)).mono ?_
        rintro e w4 ⟨Ap, cp, rfl, hcp, hpos, hP, hb4⟩
        have hb5 : Below wr.heap.size wr w4 := HbA.out.trans (hb4.mono HbA.out.size)
        have Hcm := Lib.hid (ocommit HO.out Hb.out.size hb5 HS.out.len.1 HS.out.len.2 (by omega) a.sets Ap a.ln cp Hg.out.len hcp (by have := hln.out; omega) hpos (hP.more fun t _ ht => by have ht' : _ ≤ t := ht; rw [hszA] at ht'; show wr.heap.size ≤ t; omega))
        have Hb4 := Lib.hid (Hb.out.trans (hb5.mono Hb.out.size))
        clear hb4 hb5 hP hpos hcp
        go_wp2_with fail
        refine Hcm.out.mono ?_
        rintro e w5 ⟨v, q', k', rfl, hdid, hO5, hb5, _⟩
        have hS5 := (hdid.state HS.out (by omega)).up (M := i + 1) (Q := fun _ => True) (Nat.le_refl _) fun _ _ => trivial
        have Z1 := Lib.hid hO5
        have Z2 := Lib.hid hS5
        have Z3 := Lib.hid (Hb4.out.trans hb5)
        clear hdid hO5 hS5 hb5
        go_wp2
        go_roundw
        case rel => exact ⟨i + 1, q', bj, k', by omega, by go_num, rfl, Z1.out, Z2.out, Z3.out⟩
        case measure => simp [intOf]; omega
      by_cases h1 : a.kind % 6 = 1
      · skip
        have hk1 : ((a.kind : Int) % 6 == 1) = true := by rw [beq_iff_eq]; omega
        have hk0' : ((a.kind : Int) % 6 == 0) = false := by rw [beq_eq_false_iff_ne]; omega
        go_wp2_with fail
        refine (ocut HOA.out HbW.out.size a.at_).mono ?_
        rintro e w5 ⟨rfl, hO5, hb5, _⟩
        have Z1 := Lib.hid hO5
        have Z2 := Lib.hid ((HS.out.cut a.at_).up (M := i + 1) (Q := fun _ => True) (by omega) fun _ _ => trivial)
        have Z3 := Lib.hid (HbW.out.trans hb5)
        clear hO5 hb5
        go_wp2
        go_roundw
        case rel => exact ⟨i + 1, q, bj, k.cutAt a.at_, by omega, by go_num, rfl, Z1.out, Z2.out, Z3.out⟩
        case measure => simp [intOf]; omega
      by_cases h2 : a.kind % 6 = 2
      · skip
        have hk2 : ((a.kind : Int) % 6 == 2) = true := by rw [beq_iff_eq]; omega
        have hk0' : ((a.kind : Int) % 6 == 0) = false := by rw [beq_eq_false_iff_ne]; omega
        have hk1' : ((a.kind : Int) % 6 == 1) = false := by rw [beq_eq_false_iff_ne]; omega
        go_wp2_with fail
        refine (ocrash HOA.out HbW.out.size HS.out.len.2 a.there Hg.out.there).mono ?_
        rintro e w5 ⟨rfl, hO5, hb5, _⟩
        obtain ⟨q2, l2, hI, hq2, _, hu, hd, hcut⟩ := HS.out.crash a.there
        have Hb5 := Lib.hid (HbW.out.trans hb5)
        have Hop := Lib.hid (oopen (B := w.heap.size) (q := q2) hO5.disk Hb5.out.size l2 hI hu hd (by omega))
        have Hcut := Lib.hid hcut
        clear hO5 hb5 hI hu hd hcut
        go_wp2_with fail
        refine Hop.out.mono ?_
        rintro e w6 ⟨v6, rfl, hO6⟩
        rcases hO6 with ⟨bj6, k6, rfl, ho6, hR6, _, _, _, hb6, _⟩ | ⟨h, _⟩
        rotate_left
        · rw [Hcut.out] at h; cases h
        have Z1 := Lib.hid ho6
        have Z2 : Hid (State (i + 1) k6 q2 (fun _ => True)) := .inl ⟨hR6, by omega, trivial⟩
        have Z3 := Lib.hid (Hb5.out.trans hb6)
        clear ho6 hR6 hb6
        go_wp2
        go_roundw
        case rel => exact ⟨i + 1, q2, bj6, k6, by omega, by go_num, rfl, Z1.out, Z2.out, Z3.out⟩
        case measure => simp [intOf]; omega
      have hk0' : ((a.kind : Int) % 6 == 0) = false := by rw [beq_eq_false_iff_ne]; omega
      have hk1' : ((a.kind : Int) % 6 == 1) = false := by rw [beq_eq_false_iff_ne]; omega
      have hk2' : ((a.kind : Int) % 6 == 2) = false := by rw [beq_eq_false_iff_ne]; omega
      go_wp2
      go_roundw
      case rel => exact ⟨i + 1, q, bj, k, by omega, by go_num, rfl, HOA.out, HS.out.up (by omega) fun _ _ => trivial, HbW.out⟩
      case measure => simp [intOf]; omega
    · skip
      obtain rfl : i = qn := by omega
      go_wp2_with fail
      refine (ocrash HO.out Hb.out.size HS.out.len.2 7 (by decide)).mono ?_
      rintro e w5 ⟨rfl, hO5, hb5, _⟩
      obtain ⟨q2, l2, hI, hq2, _, hu, hd, hcut⟩ := HS.out.crash 7
      have hqi := HS.out.le
      have Hb5 := Lib.hid (Hb.out.trans hb5)
      have Hop := Lib.hid (oopen (B := w.heap.size) (q := q2) hO5.disk Hb5.out.size l2 hI hu hd (by omega))
      have Hcut := Lib.hid hcut
      clear hO5 hb5 hI hu hd hcut
      go_wp2_with fail
      refine Hop.out.mono ?_
      rintro e w6 ⟨v6, rfl, hO6⟩
      rcases hO6 with ⟨bj6, k6, rfl, ho6, hR6, _, hc6, _, hb6, _⟩ | ⟨h, _⟩
      rotate_left
      · rw [Hcut.out] at h; cases h
      have HO6 := Lib.hid ho6
      have HR6 := Lib.hid hR6
      have Hb6 := Lib.hid (Hb5.out.trans hb6)
      have Hc6 := Lib.hid (hc6.trans Hcut.out)
      clear ho6 hR6 hb6 hc6
      go_wp2_with fail
      refine (ddone HO6.out.disk).mono ?_
      rintro e w' ⟨rfl, rfl⟩
      go_wp2_with fail
      refine (oseq HO6.out).mono ?_
      rintro e w' ⟨rfl, rfl⟩
      go_wp2_with fail
      refine (dnow HO6.out.disk HR6.out.dead HR6.out.img.len HR6.out.un).mono ?_
      rintro e w7 ⟨rfl, hb7⟩
      have HO7 := Lib.hid (HO6.out.below hb7)
      have Hb7 := Lib.hid (Hb6.out.trans (hb7.mono Hb6.out.size))
      clear hb7
      obtain ⟨str, hstr⟩ : ∃ str, str = strOf (k6.safe.take 12) := ⟨_, rfl⟩
      have Hstr := Lib.hid hstr
      rw [← hstr]
      clear hstr
      obtain ⟨dn, hdn⟩ : ∃ dn, dn = k6.done := ⟨_, rfl⟩
      have Hdn := Lib.hid hdn
      rw [← hdn]
      clear hdn
      go_wp2_with fail
      refine (oopen (B := w.heap.size) (q := q2) HO7.out.disk Hb7.out.size [] HR6.out.img HR6.out.un HR6.out.dead (by omega)).mono ?_
      rintro e w8 ⟨v8, rfl, hO8⟩
      rcases hO8 with ⟨bj8, k8, rfl, ho8, hR8, _, _, hk8, hb8, _⟩ | ⟨h, _⟩
      rotate_left
      · rw [Hc6.out] at h; cases h
      obtain rfl : k8 = k6 := hk8 rfl
      have HO8 := Lib.hid ho8
      have HR8 := Lib.hid hR8
      have Hb8 := Lib.hid (Hb7.out.trans hb8)
      clear ho8 hR8 hb8 hk8
      have hq8 : ((q2 : Int) == (q2 : Int)) = true := by simp
      have hs8 : (str.toList == str.toList) = true := by simp
      have hd8 : (dn == dn) = true := by simp
      go_wp2_with fail
      refine (ddone HO8.out.disk).mono ?_
      rintro e w' ⟨rfl, rfl⟩
      rw [← Hdn.out]
      go_wp2_with fail
      refine (oseq HO8.out).mono ?_
      rintro e w' ⟨rfl, rfl⟩
      go_wp2_with fail
      refine (dnow HO8.out.disk HR8.out.dead HR8.out.img.len HR8.out.un).mono ?_
      rintro e w9 ⟨rfl, hb9⟩
      rw [← Hstr.out]
      have Hb9 := Lib.hid (Hb8.out.trans (hb9.mono Hb8.out.size))
      clear hb9
      go_wp2
      go_ret
      exact ⟨rfl, Hb9.out⟩

set_option maxRecDepth 100000 in
theorem again_contract (H : Type) (enc : TypeId × Value → H) (W : World) (base : Nat) (args : Array Value) (ds gs : List (DataW H)) (before : List MemPlace)
    (hval : ∀ (j : Nat) t v, Try.f5.params[j]? = some t → args[j]? = some v → Value.okWide Try.prog W .any base t v)
    (hW : DataW.Whole enc Try.prog Try.f5.params.toList Rows.journalAgainSpec.vars false W args.toList ds gs before) :
    Calls Try.prog 5 args W fun e W' => ∃ v, e = .returned v ∧ Rows.journalAgainSpec.post enc Try.prog Try.f5 false true false false W args v W' := by
  have hW' := hW
  have hlt : ∀ x ∈ before, x.block < W.heap.size := fun x hx => hW.lt x hx
  obtain ⟨p, q, hA0, hV, rfl, _, _⟩ := hW
  have hA : DataW.TrodAll enc Try.prog W 0 (fun _ => true) true Try.f5.params.toList args.toList ds p := hA0
  rw [Try.params5] at hA hval
  obtain ⟨v0, vs0, d0, ds0, p0, q0, hargs, rfl, rfl, h0, r0⟩ := trodAll_cons hA
  obtain ⟨rfl, rfl, rfl⟩ := trodAll_nil r0
  obtain rfl : args = #[v0] := by cases args; simp_all
  obtain ⟨rfl, rfl⟩ := trodVars_none hV
  clear hA0
  obtain ⟨A0, n0, c0, l0, rfl, hn0, hc0, hm0, hr0⟩ := open_actsL (hval 0 34 v0 rfl rfl) h0
  unfold maxLen at hm0
  refine (again_walk l0 A0 n0 c0 W hn0 hc0 (by omega) hr0).mono fun e W' ⟨he, hb⟩ => ?_
  subst he
  exact ⟨_, rfl, law_post laid (by kernel_rfl) Try.underlying4 (by rw [Try.params5]; decide +kernel) rfl hW' ⟨rfl, rfl, rfl⟩ hb⟩

set_option maxRecDepth 100000 in
theorem again_lifted (os : Os) (started : os.Started) (H : Type) (enc : TypeId × Value → H) :
    ReturnsInHanded {} Try.checked os 5 .any (Rows.journalAgainSpec.pre6 enc Try.prog Try.f5 Rows.journalAgainRow.domain false) (Rows.journalAgainSpec.post enc Try.prog Try.f5 false true false false) := by
  refine returnsInHanded_of_change (C := Try.checked) own started (by kernel_rfl) Try.func5
    (ChangeSpec.witness6 (enc := enc) (C := Try.checked) false ⟨#[], #[.slice none 0 0], []⟩ 8 (by kernel_rfl) (by kernel_rfl) (by kernel_rfl) (by kernel_rfl)) ?_
  intro W base args ds gs before hval hW _ _
  exact again_contract H enc W base args ds gs before hval hW

/-- JournalAgain is true for every input. -/
theorem again_holds : Rows.JournalAgainSaid :=
  OpenClaim.holds_of_wide 5 Try.f5 rfl rfl rfl rfl rfl rfl rfl ⟨rfl, rfl, rfl, rfl, rfl⟩ rfl rfl rfl rfl rfl (by kernel_rfl) Try.func5 (by kernel_rfl)
    (of_decide_eq_true (by kernel_rfl)) (by unfold Func.isWrapper; first | (rw [if_pos (by decide +kernel)]; kernel_rfl) | (rw [if_neg (by decide +kernel)]; exact ⟨rfl, rfl⟩))
    (fun os started H enc _ => again_lifted os started H enc)
end Go.Proofs.Ytnkpmmijdkcdjaa
