/-
  Statement JournalSeqs: the number of a journal goes up by one with each commit of something that was OK, and is kept when it is opened anew. No condition.
-/
import Derived.Test.YtnkpmmijdkcdjaaN
namespace Go.Proofs.Ytnkpmmijdkcdjaa
open Go.RowKit Go.ChangeShapes Go.WideShapes Go.ChangeAt
attribute [local go_sem ↓] Go.wp_at_zero Go.wp_at_succ

set_option maxRecDepth 100000 in
set_option maxHeartbeats 6400000 in
theorem seqs_walk (l : List Act) (A : Option Addr) (n c : Nat) (w : World) (hn : l.length = n) (hc : n ≤ c) (hm : c ≤ 9223372036854775807) (hr : Acts w w.heap.size A l) :
    Calls Try.prog 8 #[.slice A n c] w fun e w' => e = .returned (.bool true) ∧ Below w.heap.size w w' := by
  have Hs := Lib.hid (shown_any w)
  have Hr := Lib.hid hr
  have Hn := Lib.hid hn
  clear hn hr
  go_enter Try.func8, Try.ntmps8
  go_wp2_with (go_at_call 9; refine Hs.out.mono ?_; rintro e w1 ⟨rfl, hb1⟩)
  refine (onew w1).mono ?_
  rintro e w2 ⟨b, rfl, hD2, hb2⟩
  have HD2 := Lib.hid hD2
  have HB1 := Lib.hid hb1.size
  have Hb2 := Lib.hid (hb1.trans (hb2.mono hb1.size))
  clear hD2 hb1 hb2
  go_wp2_with fail
  refine (oopen (B := w.heap.size) (q := 0) (HD2.out.less HB1.out) Hb2.out.size [] img_fresh rfl rfl (by omega)).mono ?_
  rintro e w3 ⟨v, rfl, hO⟩
  rcases hO with ⟨bj, k, rfl, hO3, hR3, _, hc3, _, hb3, _⟩ | ⟨h, _⟩
  rotate_left
  · exact absurd h (by decide)
  have HO3 := Lib.hid hO3
  have HR3 := Lib.hid hR3
  have HC3 := Lib.hid (hc3.trans (show (Dk.fresh 60 zx).cut = false from rfl))
  have Hb3 := Lib.hid (Hb2.out.trans hb3)
  clear hO3 hR3 hc3 hb3
  go_wp2_with fail
  have hF := few_any l A n c w3 Hn.out hc hm ((Hr.out.below Hb3.out).more Hb3.out.size)
  refine hF.mono ?_
  rintro e w' ⟨qn, rfl, hqn, hq40, h60, rfl⟩
  have H60 := Lib.hid h60
  clear h60 hF
  go_wp2
  go_loopw [6, 8, 9, 11, 12, 33] (fun j6 _ n9 _ _ i33 wr => ∃ (i q bj : Nat) (k : Dk Sx), i ≤ qn ∧ i33 = .int .i64 (i : Int) ∧ j6 = .pointer (some ⟨bj, 0, none⟩) ∧ n9 = .int .u64 (q : Int) ∧ q ≤ i ∧ Ours w.heap.size wr bj b 12 48 q k ∧ Rest k q ∧ k.cut = false ∧ Below w.heap.size w wr) (fun _ _ _ _ _ i33 _ => qn - (intOf i33).toNat)
  case atStart => exact ⟨0, 0, bj, k, Nat.zero_le _, rfl, rfl, rfl, Nat.le_refl _, HO3.out, HR3.out, HC3.out, Hb3.out⟩
  case round =>
    clear HO3 HR3 HC3
    obtain ⟨i, q, bj, k, hi, rfl, rfl, rfl, hqi, hO, hR, hcut, hb⟩ := hrel
    have HO := Lib.hid hO
    have HR := Lib.hid hR
    have HC := Lib.hid hcut
    have Hb := Lib.hid hb
    clear hO hR hcut hb
    by_cases hlt : i < qn
    · obtain ⟨b0, o, a, rfl, hb0, ha, hg, hs, c0, c1, c2, c3, c4, c5⟩ := (Hr.out.below Hb.out).at (i := i) (by rw [Hn.out]; omega)
      have Hg := Lib.hid hg
      have Hsets := Lib.hid hs
      have hln := Lib.hid (H60.out i a hlt ha)
      have hlc := hg.lc
      clear ha hg hs
      have hkind := Hg.out.kind
      have bA := Bk.new wr 41 [.int .u8 (a.kind : Int), .slice a.lA a.ln a.lc, .int .i64 a.at_, .int .u8 (a.c : Int), .slice a.bA a.bn a.bc, .int .u64 (a.there : Int)]
      have hbA : Below wr.heap.size wr (wr.alloc (.cells #[.int .u8 (a.kind : Int), .slice a.lA a.ln a.lc, .int .i64 a.at_, .int .u8 (a.c : Int), .slice a.bA a.bn a.bc, .int .u64 (a.there : Int)] 41)) := (Below.refl _ _).alloc (Nat.le_refl _) _
      have BA := Lib.hid bA
      have HbA := Lib.hid hbA
      have hszA : (wr.alloc (.cells #[.int .u8 (a.kind : Int), .slice a.lA a.ln a.lc, .int .i64 a.at_, .int .u8 (a.c : Int), .slice a.bA a.bn a.bc, .int .u64 (a.there : Int)] 41)).heap.size = wr.heap.size + 1 := by simp
      clear bA hbA
      go_wp2_with fail
      refine (patches_any 0 a.lA a.ln a.lc (.int .i64 0) (.int .u8 0) (.slice none 0 0) (.int .u64 0) rfl rfl rfl rfl (by decide) (by decide) a.sets Hg.out.len (by have := hln.out; omega) _ ((Hsets.out.below ((Below.refl _ wr).alloc Hb.out.size _)).more (by have := Hb.out.size; simp; omega)) (fun s hs => (Hg.out.sets s hs).2)).mono ?_
      rintro e w4 ⟨Ap, cp, rfl, hcp, hpos, hP, hb4⟩
      have hb5 : Below wr.heap.size wr w4 := HbA.out.trans (hb4.mono HbA.out.size)
      have Hcm := Lib.hid (ocommit HO.out Hb.out.size hb5 HR.out.img.len (by rw [HR.out.un]; decide) (by omega) a.sets Ap a.ln cp Hg.out.len hcp (by have := hln.out; omega) hpos (hP.more fun t _ ht => by have ht' : _ ≤ t := ht; rw [hszA] at ht'; show wr.heap.size ≤ t; omega))
      have BA4 : Hid (Bk w4 wr.heap.size 41 [.int .u8 (a.kind : Int), .slice a.lA a.ln a.lc, .int .i64 a.at_, .int .u8 (a.c : Int), .slice a.bA a.bn a.bc, .int .u64 (a.there : Int)]) := (hb4.block _ (by rw [hszA]; omega)).trans BA.out
      have Hw4 : Hid (wr.heap.size < w4.heap.size) := Nat.lt_of_lt_of_le (by rw [hszA]; omega) hb4.size
      have hb4w := Lib.hid (hb5.mono Hb.out.size)
      clear hb4 hb5 hP hpos hcp
      go_wp2_with fail
      refine Hcm.out.mono ?_
      rintro e w5 ⟨v, q', k', rfl, hdid, hO5, hb5, he5⟩
      obtain ⟨hR5, hc5, hcases⟩ := hdid.rest HR.out HC.out (by omega)
      have hb5w : Below w.heap.size wr w5 := (hb4w.out).trans hb5
      have HO5 := Lib.hid hO5
      have HR5 := Lib.hid hR5
      have HC5 := Lib.hid hc5
      have BA5 : Hid (Bk w5 wr.heap.size 41 [.int .u8 (a.kind : Int), .slice a.lA a.ln a.lc, .int .i64 a.at_, .int .u8 (a.c : Int), .slice a.bA a.bn a.bc, .int .u64 (a.there : Int)]) := he5.bk BA4.out (by decide)
      have Hb5 := Lib.hid (Hb.out.trans hb5w)
      have k5 := BA5.out.cell 0
      clear hO5 hR5 hc5 hb5 he5 hdid Hcm hb5w
      rcases hcases with ⟨rfl, hne, hok, rfl, _⟩ | ⟨rfl, hnil, rfl, rfl⟩ | ⟨hv, hne, rfl, rfl⟩
      · have hpos2 : (0 : Int) < (a.ln : Int) := by
          have := Hg.out.len
          rcases Nat.eq_zero_or_pos a.ln with h | h
          · exact absurd (List.eq_nil_of_length_eq_zero (by omega)) hne
          · omega
        have hw1 : IntKind.u64.wrap ((q : Int) + 1) = ((q + 1 : Nat) : Int) := by rw [IntKind.wrap_u64]; omega
        have HQ := Lib.hid (oseq HO5.out)
        go_wp2_with fail
        refine HQ.out.mono ?_
        rintro e w' ⟨rfl, rfl⟩
        by_cases hk5 : a.kind % 6 = 5
        · have hkb : ((a.kind : Int) % 6 == 5) = true := by rw [beq_iff_eq]; omega
          go_wp2_with fail
          refine (oopen (B := w.heap.size) (q := (q + 1)) HO5.out.disk Hb5.out.size [] HR5.out.img HR5.out.un HR5.out.dead (by omega)).mono ?_
          rintro e w6 ⟨v6, rfl, hO6⟩
          rcases hO6 with ⟨bj6, k6, rfl, ho6, hR6, _, hc6, _, hb6, _⟩ | ⟨h, _⟩
          rotate_left
          · rw [HC5.out] at h; cases h
          have HO6 := Lib.hid ho6
          have HR6 := Lib.hid hR6
          have HC6 := Lib.hid (hc6.trans HC5.out)
          have Hb6 := Lib.hid (Hb5.out.trans hb6)
          have HQ6 := Lib.hid (oseq ho6)
          clear ho6 hR6 hc6 hb6 k5
          go_wp2_with fail
          refine HQ6.out.mono ?_
          rintro e w' ⟨rfl, rfl⟩
          go_wp2
          go_roundw
          case rel => exact ⟨i + 1, (q + 1), bj6, k6, by omega, by go_num, rfl, rfl, by omega, HO6.out, HR6.out, HC6.out, Hb6.out⟩
          case measure => simp [intOf]; omega
        · have hkb : ((a.kind : Int) % 6 == 5) = false := by rw [beq_eq_false_iff_ne]; omega
          go_wp2
          go_roundw
          case rel => exact ⟨i + 1, (q + 1), bj, k', by omega, by go_num, rfl, rfl, by omega, HO5.out, HR5.out, HC5.out, Hb5.out⟩
          case measure => simp [intOf]; omega
      · have hzero : a.ln = 0 := by rw [← Hg.out.len, hnil]; rfl
        have hpos2 : ¬ (0 : Int) < (a.ln : Int) := by omega
        have HQ := Lib.hid (oseq HO5.out)
        go_wp2_with fail
        refine HQ.out.mono ?_
        rintro e w' ⟨rfl, rfl⟩
        by_cases hk5 : a.kind % 6 = 5
        · have hkb : ((a.kind : Int) % 6 == 5) = true := by rw [beq_iff_eq]; omega
          go_wp2_with fail
          refine (oopen (B := w.heap.size) (q := q') HO5.out.disk Hb5.out.size [] HR5.out.img HR5.out.un HR5.out.dead (by omega)).mono ?_
          rintro e w6 ⟨v6, rfl, hO6⟩
          rcases hO6 with ⟨bj6, k6, rfl, ho6, hR6, _, hc6, _, hb6, _⟩ | ⟨h, _⟩
          rotate_left
          · rw [HC5.out] at h; cases h
          have HO6 := Lib.hid ho6
          have HR6 := Lib.hid hR6
          have HC6 := Lib.hid (hc6.trans HC5.out)
          have Hb6 := Lib.hid (Hb5.out.trans hb6)
          have HQ6 := Lib.hid (oseq ho6)
          clear ho6 hR6 hc6 hb6 k5
          go_wp2_with fail
          refine HQ6.out.mono ?_
          rintro e w' ⟨rfl, rfl⟩
          go_wp2
          go_roundw
          case rel => exact ⟨i + 1, q', bj6, k6, by omega, by go_num, rfl, rfl, by omega, HO6.out, HR6.out, HC6.out, Hb6.out⟩
          case measure => simp [intOf]; omega
        · have hkb : ((a.kind : Int) % 6 == 5) = false := by rw [beq_eq_false_iff_ne]; omega
          go_wp2
          go_roundw
          case rel => exact ⟨i + 1, q', bj, k', by omega, by go_num, rfl, rfl, by omega, HO5.out, HR5.out, HC5.out, Hb5.out⟩
          case measure => simp [intOf]; omega
      · have hvb : (v == 0) = false := by rw [beq_eq_false_iff_ne]; omega
        have HQ := Lib.hid (oseq HO5.out)
        go_wp2_with fail
        refine HQ.out.mono ?_
        rintro e w' ⟨rfl, rfl⟩
        by_cases hk5 : a.kind % 6 = 5
        · have hkb : ((a.kind : Int) % 6 == 5) = true := by rw [beq_iff_eq]; omega
          go_wp2_with fail
          refine (oopen (B := w.heap.size) (q := q') HO5.out.disk Hb5.out.size [] HR5.out.img HR5.out.un HR5.out.dead (by omega)).mono ?_
          rintro e w6 ⟨v6, rfl, hO6⟩
          rcases hO6 with ⟨bj6, k6, rfl, ho6, hR6, _, hc6, _, hb6, _⟩ | ⟨h, _⟩
          rotate_left
          · rw [HC5.out] at h; cases h
          have HO6 := Lib.hid ho6
          have HR6 := Lib.hid hR6
          have HC6 := Lib.hid (hc6.trans HC5.out)
          have Hb6 := Lib.hid (Hb5.out.trans hb6)
          have HQ6 := Lib.hid (oseq ho6)
          clear ho6 hR6 hc6 hb6 k5
          go_wp2_with fail
          refine HQ6.out.mono ?_
          rintro e w' ⟨rfl, rfl⟩
          go_wp2
          go_roundw
          case rel => exact ⟨i + 1, q', bj6, k6, by omega, by go_num, rfl, rfl, by omega, HO6.out, HR6.out, HC6.out, Hb6.out⟩
          case measure => simp [intOf]; omega
        · have hkb : ((a.kind : Int) % 6 == 5) = false := by rw [beq_eq_false_iff_ne]; omega
          go_wp2
          go_roundw
          case rel => exact ⟨i + 1, q', bj, k', by omega, by go_num, rfl, rfl, by omega, HO5.out, HR5.out, HC5.out, Hb5.out⟩
          case measure => simp [intOf]; omega
    · obtain rfl : i = qn := by omega
      go_wp2
      go_ret
      exact ⟨rfl, Hb.out⟩

set_option maxRecDepth 100000 in
theorem seqs_contract (H : Type) (enc : TypeId × Value → H) (W : World) (base : Nat) (args : Array Value) (ds gs : List (DataW H)) (before : List MemPlace)
    (hval : ∀ (j : Nat) t v, Try.f8.params[j]? = some t → args[j]? = some v → Value.okWide Try.prog W .any base t v)
    (hW : DataW.Whole enc Try.prog Try.f8.params.toList Rows.journalSeqsSpec.vars false W args.toList ds gs before) :
    Calls Try.prog 8 args W fun e W' => ∃ v, e = .returned v ∧ Rows.journalSeqsSpec.post enc Try.prog Try.f8 false true false false W args v W' := by
  have hW' := hW
  have hlt : ∀ x ∈ before, x.block < W.heap.size := fun x hx => hW.lt x hx
  obtain ⟨p, q, hA0, hV, rfl, _, _⟩ := hW
  have hA : DataW.TrodAll enc Try.prog W 0 (fun _ => true) true Try.f8.params.toList args.toList ds p := hA0
  rw [Try.params8] at hA hval
  obtain ⟨v0, vs0, d0, ds0, p0, q0, hargs, rfl, rfl, h0, r0⟩ := trodAll_cons hA
  obtain ⟨rfl, rfl, rfl⟩ := trodAll_nil r0
  obtain rfl : args = #[v0] := by cases args; simp_all
  obtain ⟨rfl, rfl⟩ := trodVars_none hV
  clear hA0
  obtain ⟨A0, n0, c0, l0, rfl, hn0, hc0, hm0, hr0⟩ := open_actsL (hval 0 34 v0 rfl rfl) h0
  unfold maxLen at hm0
  refine (seqs_walk l0 A0 n0 c0 W hn0 hc0 (by omega) hr0).mono fun e W' ⟨he, hb⟩ => ?_
  subst he
  exact ⟨_, rfl, law_post laid (by kernel_rfl) Try.underlying4 (by rw [Try.params8]; decide +kernel) rfl hW' ⟨rfl, rfl, rfl⟩ hb⟩

set_option maxRecDepth 100000 in
theorem seqs_lifted (os : Os) (started : os.Started) (H : Type) (enc : TypeId × Value → H) :
    ReturnsInHanded {} Try.checked os 8 .any (Rows.journalSeqsSpec.pre6 enc Try.prog Try.f8 Rows.journalSeqsRow.domain false) (Rows.journalSeqsSpec.post enc Try.prog Try.f8 false true false false) := by
  refine returnsInHanded_of_change (C := Try.checked) own started (by kernel_rfl) Try.func8
    (ChangeSpec.witness6 (enc := enc) (C := Try.checked) false ⟨#[], #[.slice none 0 0], []⟩ 8 (by kernel_rfl) (by kernel_rfl) (by kernel_rfl) (by kernel_rfl)) ?_
  intro W base args ds gs before hval hW _ _
  exact seqs_contract H enc W base args ds gs before hval hW

/-- JournalSeqs is true for every input. -/
theorem seqs_holds : Rows.JournalSeqsSaid :=
  OpenClaim.holds_of_wide 8 Try.f8 rfl rfl rfl rfl rfl rfl rfl ⟨rfl, rfl, rfl, rfl, rfl⟩ rfl rfl rfl rfl rfl (by kernel_rfl) Try.func8 (by kernel_rfl)
    (of_decide_eq_true (by kernel_rfl)) (by unfold Func.isWrapper; first | (rw [if_pos (by decide +kernel)]; kernel_rfl) | (rw [if_neg (by decide +kernel)]; exact ⟨rfl, rfl⟩))
    (fun os started H enc _ => seqs_lifted os started H enc)
end Go.Proofs.Ytnkpmmijdkcdjaa
