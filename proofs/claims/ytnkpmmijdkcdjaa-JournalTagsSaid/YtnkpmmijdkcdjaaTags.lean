/-
  Statement JournalTags: a sector that was written by a commit has its patch's tag; the journal's sectors have a tag that one of the patches had, or 0. No condition.
-/
import Derived.Test.YtnkpmmijdkcdjaaT
namespace Go.Proofs.Ytnkpmmijdkcdjaa
open Go.RowKit Go.ChangeShapes Go.WideShapes Go.ChangeAt
attribute [local go_sem ↓] Go.wp_at_zero Go.wp_at_succ

/-- The last tags' cells. -/
def lastV (T : List Nat) : List Value := T.map fun (t : Nat) => Value.int .u8 (t : Int)
theorem lastV_set (T : List Nat) (i t : Nat) : lastV (T.set i t) = (lastV T).set i (.int .u8 (t : Int)) := by
  rw [lastV, List.map_set]; rfl

theorem had_snoc (at_ : Nat → Bool) (L : List (Int × Nat)) (x : Int) (t s : Nat) : (s == t || (at_ s || decide (∃ y ∈ L, y.2 = s))) = (at_ s || decide (∃ y ∈ L ++ [(x, t)], y.2 = s)) := by
  have h : (∃ y ∈ L ++ [(x, t)], y.2 = s) ↔ ((∃ y ∈ L, y.2 = s) ∨ s = t) := by
    constructor
    · rintro ⟨y, hy, rfl⟩
      rcases List.mem_append.1 hy with hy | hy
      · exact .inl ⟨y, hy, rfl⟩
      · rw [List.mem_singleton] at hy
        rw [hy]
        exact .inr rfl
    · rintro (⟨y, hy, rfl⟩ | rfl)
      · exact ⟨y, List.mem_append_left _ hy, rfl⟩
      · exact ⟨(x, s), List.mem_append_right _ (List.mem_singleton.2 rfl), rfl⟩
  rw [decide_eq_decide.2 h, Bool.decide_or]
  cases h1 : decide (∃ y ∈ L, y.2 = s) <;> cases h2 : at_ s <;> by_cases h3 : s = t <;> simp [h3]

set_option maxRecDepth 100000 in
set_option maxHeartbeats 6400000 in
theorem tags_walk (l : List Act) (A : Option Addr) (n c : Nat) (w : World) (hn : l.length = n) (hc : n ≤ c) (hm : c ≤ 9223372036854775807) (hr : Acts w w.heap.size A l) :
    Calls Try.prog 6 #[.slice A n c] w fun e w' => e = .returned (.bool true) ∧ Below w.heap.size w w' := by
  have Hs := Lib.hid (shown_any w)
  have Hr := Lib.hid hr
  have Hn := Lib.hid hn
  clear hn hr
  go_enter Try.func6, Try.ntmps6
  go_wp2_with (go_at_call 9; refine Hs.out.mono ?_; rintro e w1 ⟨rfl, hb1⟩)
  refine (onew w1).mono ?_
  rintro e w2 ⟨b, rfl, hD2, hb2⟩
  have HD2 := Lib.hid hD2
  have HB1 := Lib.hid hb1.size
  have Hb2 := Lib.hid (hb1.trans (hb2.mono hb1.size))
  clear hD2 hb1 hb2
  go_wp2_with fail
  refine (oopen (B := w.heap.size) (q := 0) (HD2.out.less HB1.out) Hb2.out.size [] img_fresh rfl rfl (by omega)).mono ?_
  rintro e w3 ⟨v, rfl, hO⟩
  rcases hO with ⟨bj, k, rfl, hO3, hR3, _, hc3, hk3, hb3, _⟩ | ⟨h, _⟩
  rotate_left
  · exact absurd h (by decide)
  obtain rfl := hk3 rfl
  have HO3 := Lib.hid hO3
  have HR3 := Lib.hid hR3
  have Hb3 := Lib.hid (Hb2.out.trans hb3)
  clear hO3 hR3 hc3 hb3 hk3
  obtain ⟨w4, hrun4, hM4, hg4⟩ := (MapIs.made w3).put (by decide) (s := 0) (by decide)
  have hmm := @run_makeMap Try.prog
  have hrun5 : (Instr.mapUpdate 55 (.map (some w3.heap.size)) (.int .u16 0) (.bool true)).run Try.prog (w3.alloc (.map #[] 0)) = .ok () w4 := hrun4
  clear hrun4
  have hb4 : Below w3.heap.size w3 w4 := (((Below.refl _ _).alloc (Nat.le_refl _) _).grown hg4 (by simp) (fun t ht => by cases ht; exact Nat.le_refl _))
  have HM4 := Lib.hid hM4
  have Hb4 := Lib.hid hb4
  clear hM4 hg4 hb4
  have bL := Bk.new w4 56 (lastV (List.replicate 12 0))
  have hbL : Below w4.heap.size w4 (w4.alloc (.cells #[.int .u8 0, .int .u8 0, .int .u8 0, .int .u8 0, .int .u8 0, .int .u8 0, .int .u8 0, .int .u8 0, .int .u8 0, .int .u8 0, .int .u8 0, .int .u8 0] 56)) := (Below.refl _ _).alloc (Nat.le_refl _) _
  obtain ⟨wL, hwL⟩ : ∃ wL, wL = w4.alloc (.cells #[.int .u8 0, .int .u8 0, .int .u8 0, .int .u8 0, .int .u8 0, .int .u8 0, .int .u8 0, .int .u8 0, .int .u8 0, .int .u8 0, .int .u8 0, .int .u8 0] 56) := ⟨_, rfl⟩
  have bL' : Bk wL w4.heap.size 56 (lastV (List.replicate 12 0)) := by rw [hwL]; exact bL
  rw [← hwL] at hbL
  have hb5 : Below w.heap.size w wL := (Hb3.out.trans (Hb4.out.mono Hb3.out.size)).trans (hbL.mono (Nat.le_trans Hb3.out.size Hb4.out.size))
  obtain ⟨gm, hgm⟩ : ∃ gm, gm = w3.heap.size := ⟨_, rfl⟩
  obtain ⟨gl, hgl⟩ : ∃ gl, gl = w4.heap.size := ⟨_, rfl⟩
  have HMW : Hid (MapIs wL gm (fun k => k == 0 || false) 1) := by have h := HM4.out.below hbL; rw [hgm]; exact h
  have HBW : Hid (Bk wL gl 56 (lastV (List.replicate 12 0))) := by rw [hgl]; exact bL'
  have HOW := Lib.hid ((HO3.out.below Hb4.out).below hbL)
  have HbW := Lib.hid hb5
  have Hgm : Hid (w.heap.size ≤ gm ∧ w.heap.size ≤ gl ∧ gm ≠ gl) := ⟨by have := Hb3.out.size; omega, by have := Hb3.out.size; have := Hb4.out.size; omega, by have := HM4.out.lt; omega⟩
  have hF := few_any l A n c wL Hn.out hc hm ((Hr.out.below HbW.out).more HbW.out.size)
  clear bL bL' hb5 hbL
  go_wp2_with fail
  rw [← hwL, ← hgm, ← hgl]
  clear hwL hgm hgl
  refine hF.mono ?_
  rintro e w' ⟨qn, rfl, hqn, hq40, h60, rfl⟩
  have H60 := Lib.hid h60
  clear h60 hF hrun5
  go_wp2
  go_loopw [12, 13, 14, 16, 17, 18, 19, 42] (fun _ _ _ _ _ _ _ i42 wr => ∃ (i q m : Nat) (k : Dk Sx) (T : List Nat) (at_ : Nat → Bool), i ≤ qn ∧ i42 = .int .i64 (i : Int) ∧ q ≤ i ∧ m ≤ 1 + 60 * i ∧ Ours w.heap.size wr bj b 12 48 q k ∧ Rest k q ∧ k.cut = false ∧ Bk wr gl 56 (lastV T) ∧ T = (k.safe.take 12).map (·.t) ∧ MapIs wr gm at_ m ∧ at_ 0 = true ∧ (∀ c ∈ k.safe, at_ c.t = true) ∧ Below w.heap.size w wr) (fun _ _ _ _ _ _ _ i42 _ => qn - (intOf i42).toNat)
  case atStart => exact ⟨0, 0, 1, Dk.fresh 60 zx, _, _, Nat.zero_le _, rfl, Nat.le_refl _, by omega, HOW.out, HR3.out, rfl, HBW.out, by rfl, HMW.out, rfl, fun c hc => by have := List.eq_of_mem_replicate (show c ∈ List.replicate 60 zx from hc); rw [this]; rfl, HbW.out⟩
  case round =>
    clear HOW HR3 HBW HMW
    obtain ⟨i, q, m, k, T, at_, hi, rfl, hqi, hmi, hO, hR, hcut, hBl, hT, hM, hz, hat, hb⟩ := hrel
    have HO := Lib.hid hO
    have HR := Lib.hid hR
    have HC := Lib.hid hcut
    have HlenK : Hid (k.safe.length = 60) := hR.img.len
    have HBl := Lib.hid hBl
    have HT := Lib.hid hT
    have HM := Lib.hid hM
    have HZ := Lib.hid hz
    have HAt := Lib.hid hat
    have Hb := Lib.hid hb
    clear hO hR hcut hBl hT hM hz hat hb
    by_cases hlt : i < qn
    · obtain ⟨b0, o, a, rfl, hb0, ha, hg, hs, c0, c1, c2, c3, c4, c5⟩ := (Hr.out.below Hb.out).at (i := i) (by rw [Hn.out]; omega)
      have Hg := Lib.hid hg
      have Hsets := Lib.hid hs
      have hln := Lib.hid (H60.out i a hlt ha)
      have hlc := hg.lc
      clear ha hg hs
      have bA := Bk.new wr 41 [.int .u8 (a.kind : Int), .slice a.lA a.ln a.lc, .int .i64 a.at_, .int .u8 (a.c : Int), .slice a.bA a.bn a.bc, .int .u64 (a.there : Int)]
      have hbA : Below wr.heap.size wr (wr.alloc (.cells #[.int .u8 (a.kind : Int), .slice a.lA a.ln a.lc, .int .i64 a.at_, .int .u8 (a.c : Int), .slice a.bA a.bn a.bc, .int .u64 (a.there : Int)] 41)) := (Below.refl _ _).alloc (Nat.le_refl _) _
      have BA := Lib.hid bA
      have HbA := Lib.hid hbA
      have hszA : (wr.alloc (.cells #[.int .u8 (a.kind : Int), .slice a.lA a.ln a.lc, .int .i64 a.at_, .int .u8 (a.c : Int), .slice a.bA a.bn a.bc, .int .u64 (a.there : Int)] 41)).heap.size = wr.heap.size + 1 := by simp
      clear bA hbA
      go_wp2_with fail
      refine (patches_any 0 a.lA a.ln a.lc (.int .i64 0) (.int .u8 0) (.slice none 0 0) (.int .u64 0) rfl rfl rfl rfl (by decide) (by decide) a.sets Hg.out.len (by have := hln.out; omega) _ ((Hsets.out.below ((Below.refl _ wr).alloc Hb.out.size _)).more (by have := Hb.out.size; simp; omega)) (fun s hs => (Hg.out.sets s hs).2)).mono ?_
      rintro e w4 ⟨Ap, cp, rfl, hcp, hpos, hP, hb4⟩
      have hb5 : Below wr.heap.size wr w4 := HbA.out.trans (hb4.mono HbA.out.size)
      have Hcm := Lib.hid (ocommit HO.out Hb.out.size hb5 HR.out.img.len (by rw [HR.out.un]; decide) (by omega) a.sets Ap a.ln cp Hg.out.len hcp (by have := hln.out; omega) hpos (hP.more fun t _ ht => by have ht' : _ ≤ t := ht; rw [hszA] at ht'; show wr.heap.size ≤ t; omega))
      have BA4 : Hid (Bk w4 wr.heap.size 41 [.int .u8 (a.kind : Int), .slice a.lA a.ln a.lc, .int .i64 a.at_, .int .u8 (a.c : Int), .slice a.bA a.bn a.bc, .int .u64 (a.there : Int)]) := (hb4.block _ (by rw [hszA]; omega)).trans BA.out
      have HM4 := Lib.hid (HM.out.below hb5)
      have HB4 : Hid (Bk w4 gl 56 (lastV T)) := (hb5.block _ HBl.out.lt).trans HBl.out
      have hb4w := Lib.hid (hb5.mono Hb.out.size)
      clear hb4 hb5 hP hpos hcp
      go_wp2_with fail
      refine Hcm.out.mono ?_
      rintro e w5 ⟨v, q', k', rfl, hdid, hO5, hb5, he5⟩
      obtain ⟨hR5, hc5, hcases⟩ := hdid.rest HR.out HC.out (by omega)
      have hb5w : Below w.heap.size wr w5 := (hb4w.out).trans hb5
      have HO5 := Lib.hid hO5
      have HR5 := Lib.hid hR5
      have HC5 := Lib.hid hc5
      have BA5 : Hid (Bk w5 wr.heap.size 41 [.int .u8 (a.kind : Int), .slice a.lA a.ln a.lc, .int .i64 a.at_, .int .u8 (a.c : Int), .slice a.bA a.bn a.bc, .int .u64 (a.there : Int)]) := he5.bk BA4.out (by decide)
      have HB5 : Hid (Bk w5 gl 56 (lastV T)) := he5.bk HB4.out (by decide)
      have HM5 := Lib.hid (HM4.out.other he5)
      have Hb5 := Lib.hid (Hb.out.trans hb5w)
      have k5 := BA5.out.cell 1
      have HS5 := Lib.hid (Hsets.out.below hb5w)
      have hsum : ∃ eff : List (Int × Nat), ((v = 0 ∧ eff = a.sets ∧ okSets a.sets) ∨ (v = 1 ∧ eff = []) ∨ (v = 4 ∧ eff = [])) ∧ q' ≤ i + 1 ∧ (k'.safe.take 12).map (·.t) = puts T (tagsP eff) ∧ ∀ c ∈ k'.safe, at_ c.t = true ∨ ∃ s ∈ eff, s.2 = c.t := by
        rcases hcases with ⟨rfl, hne, hok, rfl, hk⟩ | ⟨rfl, hnil, rfl, rfl⟩ | ⟨hv, hne, rfl, rfl⟩
        · refine ⟨a.sets, .inl ⟨rfl, rfl, hok⟩, by omega, ?_, fun c hc => ?_⟩
          · rw [hk, tags_after HR.out.img.len q fun s hs => (Hg.out.sets s hs).2, HT.out]
          · rw [hk] at hc
            rcases after_tags hc with h | h | ⟨p, hp, rfl⟩
            · exact .inl (by rw [h]; exact HZ.out)
            · exact .inl (HAt.out c h)
            · obtain ⟨s, hs, rfl⟩ := List.mem_map.1 hp
              exact .inr ⟨s, hs, (cx_tag _ (Hg.out.sets s hs).2).symm⟩
        · exact ⟨a.sets, .inl ⟨rfl, rfl, by rw [hnil]; exact ⟨by simp, fun s hs => by cases hs⟩⟩, by omega, by rw [hnil, HT.out]; rfl, fun c hc => .inl (HAt.out c hc)⟩
        · exact ⟨[], hv.elim (fun h => .inr (.inl ⟨h, rfl⟩)) (fun h => .inr (.inr ⟨h, rfl⟩)), by omega, by rw [HT.out]; rfl, fun c hc => .inl (HAt.out c hc)⟩
      obtain ⟨eff, hv, hq', htag, hats⟩ := hsum
      have HTag := Lib.hid htag
      have HAts := Lib.hid hats
      clear hO5 hR5 hc5 hb5 he5 hdid Hcm hb5w hcases htag hats HO HR HC HBl HM BA BA4 HM4 HB4
      rcases hv with ⟨rfl, rfl, hok⟩ | ⟨rfl, rfl⟩ | ⟨rfl, rfl⟩
      · have Hok := Lib.hid hok
        clear hok
        go_wp2
        go_loopw [16, 66] (fun _ i wr => ∃ j : Nat, j ≤ a.ln ∧ i = .int .i64 (j : Int) ∧ MapIs wr gm (fun s => at_ s || decide (∃ x ∈ a.sets.take j, x.2 = s)) (m + j) ∧ Bk wr gl 56 (lastV (puts T (tagsP (a.sets.take j)))) ∧ Ours w.heap.size wr bj b 12 48 q' k' ∧ Below w.heap.size w5 wr) (fun _ i _ => a.ln - (intOf i).toNat)
        case atStart => exact ⟨0, Nat.zero_le _, rfl, by simpa using HM5.out, HB5.out, HO5.out, Below.refl _ _⟩
        case round =>
          clear k5 BA5 HO5 HM5 HB5 c0 c1 c2 c3 c4 c5
          obtain ⟨j, hj, rfl, hMx, hBx, hOx, hbx⟩ := hrel
          have HMz := Lib.hid hMx
          have HBz := Lib.hid hBx
          have HOz := Lib.hid hOx
          have Hb5z := Lib.hid hbx
          have Hbz := Lib.hid (Hb5.out.trans hbx)
          clear hMx hBx hOx hbx
          have hl60 := hln.out
          by_cases hlt2 : j < a.ln
          · obtain ⟨⟨s1, s2⟩, hsj⟩ : ∃ s, a.sets[j]? = some s := ⟨_, List.getElem?_eq_getElem (by rw [Hg.out.len]; exact hlt2)⟩
            obtain ⟨b1, o1, hlA, hb1, d0, d1⟩ := (HS5.out.below Hb5z.out) j _ hsj
            have hs0 := Hok.out.2 _ (List.mem_of_getElem? hsj)
            have hs2 := (Hg.out.sets _ (List.mem_of_getElem? hsj)).2
            simp only at hs0 hs2 d0 d1
            obtain ⟨sn, rfl⟩ : ∃ sn : Nat, s1 = (sn : Int) := ⟨s1.toNat, by omega⟩
            have hsn : sn < 12 := by omega
            have Hnext := Lib.hid (tagsP_snoc hsj T)
            have Htake : Hid (a.sets.take (j + 1) = a.sets.take j ++ [((sn : Int), s2)]) := by
              obtain ⟨h1, h2⟩ := List.getElem?_eq_some_iff.1 hsj
              show _ = _
              rw [List.take_succ_eq_append_getElem h1, h2]
            have hbB : Below wr.heap.size wr (wr.alloc (.cells #[.int .i64 (sn : Int), .int .u8 (s2 : Int)] 43)) := (Below.refl _ _).alloc (Nat.le_refl _) _
            have hBb := Bk.new wr 43 [.int .i64 (sn : Int), .int .u8 (s2 : Int)]
            obtain ⟨wy, hrun, hMy, hGy⟩ := (HMz.out.below hbB).put (by have := hln.out; unfold maxLen; omega) (s := s2) (by omega)
            have hBy : Bk wy wr.heap.size 43 [.int .i64 (sn : Int), .int .u8 (s2 : Int)] := (hGy.block _ (by simp) (fun e => by injection e with e; have := HMz.out.lt; omega)).trans hBb
            have hLy : Bk wy gl 56 (lastV (puts T (tagsP (a.sets.take j)))) := (hGy.block _ (Nat.lt_of_lt_of_le HBz.out.lt hbB.size) (fun e => by injection e with e; have := Hgm.out; omega)).trans ((hbB.block _ HBz.out.lt).trans HBz.out)
            have hOy : Ours w.heap.size wy bj b 12 48 q' k' := ((HOz.out.below hbB)).map (HMz.out.below hbB) hGy
            have hby : Below w.heap.size w5 wy := (Hb5z.out.trans (hbB.mono Hbz.out.size)).grown hGy (Nat.le_trans Hbz.out.size hbB.size) (fun t ht => by cases ht; exact Hgm.out.1)
            have y0 := hBy.cell 0
            have y1 := hBy.cell 1
            have b0' := hBb.cell 0
            have b1' := hBb.cell 1
            have hlenL : (lastV (puts T (tagsP (a.sets.take j)))).length = 12 := by
              rw [lastV, List.length_map, length_puts, HT.out, List.length_map, List.length_take, HlenK.out]; rfl
            obtain ⟨uo, huo⟩ : ∃ u, wy.cell? ⟨gl, sn, none⟩ = some u := ⟨_, (hLy.cell sn).trans (List.getElem?_eq_getElem (by rw [hlenL]; exact hsn))⟩
            have hfz := hLy.frozen sn
            have hcv : (s2 : Int) % 65536 = s2 := by omega
            have hn0 : ¬ ((sn : Int) < 0) := by omega
            have hn1 : ¬ (11 < (sn : Int)) := by omega
            have hn2 : (sn : Int) < 12 := by omega
            have HMy := Lib.hid hMy
            have HLy0 := Lib.hid hLy
            have HLy := Lib.hid (hLy.set sn (.int .u8 (s2 : Int)))
            have HOy := Lib.hid hOy
            have Hby := Lib.hid hby
            have Hne : Hid (gm ≠ gl) := Hgm.out.2.2
            clear hMy hLy hOy hby hGy hBb hbB hBy hlenL hsj hs0 hs2 hb1
            go_wp2
            go_roundw
            case rel =>
              refine ⟨j + 1, by omega, by go_num, ?_, ?_, ?_, ?_⟩
              · rw [Htake.out]
                refine (HMy.out.keep (Below.heap_setCell wy ⟨gl, sn, none⟩ _ gm (by show gm ≠ gl; exact Hne.out))).as (fun s => had_snoc at_ _ _ _ s) (by omega)
              · rw [Hnext.out, lastV_set]; exact HLy.out
              · exact HOy.out.far HLy0.out (by decide) _ _
              · exact Hby.out.setCell (p := ⟨gl, sn, none⟩) Hgm.out.2.1 _
            case measure => simp [intOf]; omega
          · obtain rfl : j = a.ln := by omega
            have htk : a.sets.take a.ln = a.sets := by rw [← Hg.out.len]; exact List.take_length
            rw [htk] at HMz HBz
            go_wp2
            obtain ⟨at2, hat2⟩ : ∃ at2 : Nat → Bool, at2 = fun s => at_ s || decide (∃ x ∈ a.sets, x.2 = s) := ⟨_, rfl⟩
            have HMx : Hid (MapIs wr gm at2 (m + a.ln)) := by rw [hat2]; exact HMz.out
            have HAx : Hid (∀ c ∈ k'.safe, at2 c.t = true) := fun c hc => by
              rw [hat2]
              rcases HAts.out c hc with h | ⟨s, hs, hst⟩
              · simp [h]
              · simp [show ∃ x ∈ a.sets, x.2 = c.t from ⟨s, hs, hst⟩]
            have HZx : Hid (at2 0 = true) := by unfold Hid; rw [hat2]; simp [HZ.out]
            have HlenT : Hid (k'.safe.length = 60) := HR5.out.img.len
            have HTx : Hid ((k'.safe.take 12).map (·.t) = (puts T (tagsP a.sets))) := HTag.out
            clear hat2
            go_loopw [17, 18, 19, 90] (fun _ _ _ i wy => ∃ j3 : Nat, j3 ≤ 60 ∧ i = .int .i64 (j3 : Int) ∧ wy = wr) (fun _ _ _ i _ => 60 - (intOf i).toNat)
            case atStart => exact ⟨0, Nat.zero_le _, rfl, rfl⟩
            case round =>
              obtain ⟨j3, hj3, rfl, rfl⟩ := hrel
              by_cases hlt3 : j3 < 60
              · obtain ⟨cc, hcc⟩ : ∃ cc, k'.safe[j3]? = some cc := ⟨_, List.getElem?_eq_getElem (by rw [HlenT.out]; exact hlt3)⟩
                have Htg := Lib.hid (dtag HOz.out.disk HR5.out.dead HR5.out.un j3 cc hcc)
                have hlook := HMx.out.look cc.ht
                rw [HAx.out cc (List.mem_of_getElem? hcc)] at hlook
                have hcv : (cc.t : Int) % 65536 = cc.t := by have := cc.ht; omega
                have hnn : ((cc.t : Int) == (cc.t : Int)) = true := by simp
                by_cases h12 : j3 < 12
                · have hcell := HBz.out.cell j3
                  have hgt : (lastV (puts T (tagsP a.sets)))[j3]? = some (.int .u8 (cc.t : Int)) := by
                    rw [← HTx.out, lastV, List.getElem?_map, List.getElem?_map, List.getElem?_take, if_pos h12, hcc]; rfl
                  rw [hgt] at hcell
                  have h12' : (j3 : Int) < 12 := by omega
                  have hj0 : ¬ ((j3 : Int) < 0) := by omega
                  clear hcc hgt
                  go_wp2_with fail
                  refine Htg.out.mono ?_
                  rintro e w' ⟨rfl, rfl⟩
                  go_wp2
                  go_roundw
                  case rel => exact ⟨j3 + 1, by omega, by go_num, by first | trivial | rfl⟩
                  case measure => simp [intOf]; omega
                · have h12' : ¬ ((j3 : Int) < 12) := by omega
                  clear hcc
                  go_wp2_with fail
                  refine Htg.out.mono ?_
                  rintro e w' ⟨rfl, rfl⟩
                  go_wp2
                  go_roundw
                  case rel => exact ⟨j3 + 1, by omega, by go_num, by first | trivial | rfl⟩
                  case measure => simp [intOf]; omega
              · obtain rfl : j3 = 60 := by omega
                go_wp2
                go_roundw
                case rel => exact ⟨i + 1, q', _, k', _, _, by omega, by go_num, hq', by have := hln.out; omega, HOz.out, HR5.out, HC5.out, HBz.out, HTx.out.symm, HMx.out, HZx.out, HAx.out, Hbz.out⟩
                case measure => simp [intOf]; omega
      · go_wp2
        go_loopw [16, 66] (fun _ i wr => ∃ j : Nat, j ≤ a.ln ∧ i = .int .i64 (j : Int) ∧ MapIs wr gm at_ m ∧ Bk wr gl 56 (lastV T) ∧ Ours w.heap.size wr bj b 12 48 q' k' ∧ Below w.heap.size w5 wr) (fun _ i _ => a.ln - (intOf i).toNat)
        case atStart => exact ⟨0, Nat.zero_le _, rfl, HM5.out, HB5.out, HO5.out, Below.refl _ _⟩
        case round =>
          clear k5 BA5 HO5 HM5 HB5 c0 c1 c2 c3 c4 c5
          obtain ⟨j, hj, rfl, hMx, hBx, hOx, hbx⟩ := hrel
          have HMz := Lib.hid hMx
          have HBz := Lib.hid hBx
          have HOz := Lib.hid hOx
          have Hb5z := Lib.hid hbx
          have Hbz := Lib.hid (Hb5.out.trans hbx)
          clear hMx hBx hOx hbx
          have hl60 := hln.out
          by_cases hlt2 : j < a.ln
          · obtain ⟨⟨s1, s2⟩, hsj⟩ : ∃ s, a.sets[j]? = some s := ⟨_, List.getElem?_eq_getElem (by rw [Hg.out.len]; exact hlt2)⟩
            obtain ⟨b1, o1, hlA, hb1, d0, d1⟩ := (HS5.out.below Hb5z.out) j _ hsj
            simp only at d0 d1
            have hbB : Below wr.heap.size wr (wr.alloc (.cells #[.int .i64 s1, .int .u8 (s2 : Int)] 43)) := (Below.refl _ _).alloc (Nat.le_refl _) _
            have Z1 := Lib.hid (HMz.out.below hbB)
            have Z2 : Hid (Bk _ gl 56 (lastV T)) := (hbB.block _ HBz.out.lt).trans HBz.out
            have Z3 := Lib.hid (HOz.out.below hbB)
            have Z4 := Lib.hid (Hb5z.out.trans (hbB.mono Hbz.out.size))
            clear hbB hsj hb1
            go_wp2
            go_roundw
            case rel => exact ⟨j + 1, by omega, by go_num, Z1.out, Z2.out, Z3.out, Z4.out⟩
            case measure => simp [intOf]; omega
          · obtain rfl : j = a.ln := by omega
            go_wp2
            obtain ⟨at2, hat2⟩ : ∃ at2 : Nat → Bool, at2 = fun s => at_ s := ⟨_, rfl⟩
            have HMx : Hid (MapIs wr gm at2 (m + 0)) := by rw [hat2]; exact HMz.out
            have HAx : Hid (∀ c ∈ k'.safe, at2 c.t = true) := fun c hc => by
              rw [hat2]
              rcases HAts.out c hc with h | ⟨s, hs, hst⟩
              · simp [h]
              · cases hs
            have HZx : Hid (at2 0 = true) := by unfold Hid; rw [hat2]; simp [HZ.out]
            have HlenT : Hid (k'.safe.length = 60) := HR5.out.img.len
            have HTx : Hid ((k'.safe.take 12).map (·.t) = T) := HTag.out
            clear hat2
            go_loopw [17, 18, 19, 90] (fun _ _ _ i wy => ∃ j3 : Nat, j3 ≤ 60 ∧ i = .int .i64 (j3 : Int) ∧ wy = wr) (fun _ _ _ i _ => 60 - (intOf i).toNat)
            case atStart => exact ⟨0, Nat.zero_le _, rfl, rfl⟩
            case round =>
              obtain ⟨j3, hj3, rfl, rfl⟩ := hrel
              by_cases hlt3 : j3 < 60
              · obtain ⟨cc, hcc⟩ : ∃ cc, k'.safe[j3]? = some cc := ⟨_, List.getElem?_eq_getElem (by rw [HlenT.out]; exact hlt3)⟩
                have Htg := Lib.hid (dtag HOz.out.disk HR5.out.dead HR5.out.un j3 cc hcc)
                have hlook := HMx.out.look cc.ht
                rw [HAx.out cc (List.mem_of_getElem? hcc)] at hlook
                have hcv : (cc.t : Int) % 65536 = cc.t := by have := cc.ht; omega
                have hnn : ((cc.t : Int) == (cc.t : Int)) = true := by simp
                by_cases h12 : j3 < 12
                · have hcell := HBz.out.cell j3
                  have hgt : (lastV T)[j3]? = some (.int .u8 (cc.t : Int)) := by
                    rw [← HTx.out, lastV, List.getElem?_map, List.getElem?_map, List.getElem?_take, if_pos h12, hcc]; rfl
                  rw [hgt] at hcell
                  have h12' : (j3 : Int) < 12 := by omega
                  have hj0 : ¬ ((j3 : Int) < 0) := by omega
                  clear hcc hgt
                  go_wp2_with fail
                  refine Htg.out.mono ?_
                  rintro e w' ⟨rfl, rfl⟩
                  go_wp2
                  go_roundw
                  case rel => exact ⟨j3 + 1, by omega, by go_num, by first | trivial | rfl⟩
                  case measure => simp [intOf]; omega
                · have h12' : ¬ ((j3 : Int) < 12) := by omega
                  clear hcc
                  go_wp2_with fail
                  refine Htg.out.mono ?_
                  rintro e w' ⟨rfl, rfl⟩
                  go_wp2
                  go_roundw
                  case rel => exact ⟨j3 + 1, by omega, by go_num, by first | trivial | rfl⟩
                  case measure => simp [intOf]; omega
              · obtain rfl : j3 = 60 := by omega
                go_wp2
                go_roundw
                case rel => exact ⟨i + 1, q', _, k', _, _, by omega, by go_num, hq', by have := hln.out; omega, HOz.out, HR5.out, HC5.out, HBz.out, HTx.out.symm, HMx.out, HZx.out, HAx.out, Hbz.out⟩
                case measure => simp [intOf]; omega
      · go_wp2
        go_loopw [16, 66] (fun _ i wr => ∃ j : Nat, j ≤ a.ln ∧ i = .int .i64 (j : Int) ∧ MapIs wr gm at_ m ∧ Bk wr gl 56 (lastV T) ∧ Ours w.heap.size wr bj b 12 48 q' k' ∧ Below w.heap.size w5 wr) (fun _ i _ => a.ln - (intOf i).toNat)
        case atStart => exact ⟨0, Nat.zero_le _, rfl, HM5.out, HB5.out, HO5.out, Below.refl _ _⟩
        case round =>
          clear k5 BA5 HO5 HM5 HB5 c0 c1 c2 c3 c4 c5
          obtain ⟨j, hj, rfl, hMx, hBx, hOx, hbx⟩ := hrel
          have HMz := Lib.hid hMx
          have HBz := Lib.hid hBx
          have HOz := Lib.hid hOx
          have Hb5z := Lib.hid hbx
          have Hbz := Lib.hid (Hb5.out.trans hbx)
          clear hMx hBx hOx hbx
          have hl60 := hln.out
          by_cases hlt2 : j < a.ln
          · obtain ⟨⟨s1, s2⟩, hsj⟩ : ∃ s, a.sets[j]? = some s := ⟨_, List.getElem?_eq_getElem (by rw [Hg.out.len]; exact hlt2)⟩
            obtain ⟨b1, o1, hlA, hb1, d0, d1⟩ := (HS5.out.below Hb5z.out) j _ hsj
            simp only at d0 d1
            have hbB : Below wr.heap.size wr (wr.alloc (.cells #[.int .i64 s1, .int .u8 (s2 : Int)] 43)) := (Below.refl _ _).alloc (Nat.le_refl _) _
            have Z1 := Lib.hid (HMz.out.below hbB)
            have Z2 : Hid (Bk _ gl 56 (lastV T)) := (hbB.block _ HBz.out.lt).trans HBz.out
            have Z3 := Lib.hid (HOz.out.below hbB)
            have Z4 := Lib.hid (Hb5z.out.trans (hbB.mono Hbz.out.size))
            clear hbB hsj hb1
            go_wp2
            go_roundw
            case rel => exact ⟨j + 1, by omega, by go_num, Z1.out, Z2.out, Z3.out, Z4.out⟩
            case measure => simp [intOf]; omega
          · obtain rfl : j = a.ln := by omega
            go_wp2
            obtain ⟨at2, hat2⟩ : ∃ at2 : Nat → Bool, at2 = fun s => at_ s := ⟨_, rfl⟩
            have HMx : Hid (MapIs wr gm at2 (m + 0)) := by rw [hat2]; exact HMz.out
            have HAx : Hid (∀ c ∈ k'.safe, at2 c.t = true) := fun c hc => by
              rw [hat2]
              rcases HAts.out c hc with h | ⟨s, hs, hst⟩
              · simp [h]
              · cases hs
            have HZx : Hid (at2 0 = true) := by unfold Hid; rw [hat2]; simp [HZ.out]
            have HlenT : Hid (k'.safe.length = 60) := HR5.out.img.len
            have HTx : Hid ((k'.safe.take 12).map (·.t) = T) := HTag.out
            clear hat2
            go_loopw [17, 18, 19, 90] (fun _ _ _ i wy => ∃ j3 : Nat, j3 ≤ 60 ∧ i = .int .i64 (j3 : Int) ∧ wy = wr) (fun _ _ _ i _ => 60 - (intOf i).toNat)
            case atStart => exact ⟨0, Nat.zero_le _, rfl, rfl⟩
            case round =>
              obtain ⟨j3, hj3, rfl, rfl⟩ := hrel
              by_cases hlt3 : j3 < 60
              · obtain ⟨cc, hcc⟩ : ∃ cc, k'.safe[j3]? = some cc := ⟨_, List.getElem?_eq_getElem (by rw [HlenT.out]; exact hlt3)⟩
                have Htg := Lib.hid (dtag HOz.out.disk HR5.out.dead HR5.out.un j3 cc hcc)
                have hlook := HMx.out.look cc.ht
                rw [HAx.out cc (List.mem_of_getElem? hcc)] at hlook
                have hcv : (cc.t : Int) % 65536 = cc.t := by have := cc.ht; omega
                have hnn : ((cc.t : Int) == (cc.t : Int)) = true := by simp
                by_cases h12 : j3 < 12
                · have hcell := HBz.out.cell j3
                  have hgt : (lastV T)[j3]? = some (.int .u8 (cc.t : Int)) := by
                    rw [← HTx.out, lastV, List.getElem?_map, List.getElem?_map, List.getElem?_take, if_pos h12, hcc]; rfl
                  rw [hgt] at hcell
                  have h12' : (j3 : Int) < 12 := by omega
                  have hj0 : ¬ ((j3 : Int) < 0) := by omega
                  clear hcc hgt
                  go_wp2_with fail
                  refine Htg.out.mono ?_
                  rintro e w' ⟨rfl, rfl⟩
                  go_wp2
                  go_roundw
                  case rel => exact ⟨j3 + 1, by omega, by go_num, by first | trivial | rfl⟩
                  case measure => simp [intOf]; omega
                · have h12' : ¬ ((j3 : Int) < 12) := by omega
                  clear hcc
                  go_wp2_with fail
                  refine Htg.out.mono ?_
                  rintro e w' ⟨rfl, rfl⟩
                  go_wp2
                  go_roundw
                  case rel => exact ⟨j3 + 1, by omega, by go_num, by first | trivial | rfl⟩
                  case measure => simp [intOf]; omega
              · obtain rfl : j3 = 60 := by omega
                go_wp2
                go_roundw
                case rel => exact ⟨i + 1, q', _, k', _, _, by omega, by go_num, hq', by have := hln.out; omega, HOz.out, HR5.out, HC5.out, HBz.out, HTx.out.symm, HMx.out, HZx.out, HAx.out, Hbz.out⟩
                case measure => simp [intOf]; omega
    · obtain rfl : i = qn := by omega
      go_wp2
      go_ret
      exact ⟨rfl, Hb.out⟩

set_option maxRecDepth 100000 in
theorem tags_contract (H : Type) (enc : TypeId × Value → H) (W : World) (base : Nat) (args : Array Value) (ds gs : List (DataW H)) (before : List MemPlace)
    (hval : ∀ (j : Nat) t v, Try.f6.params[j]? = some t → args[j]? = some v → Value.okWide Try.prog W .any base t v)
    (hW : DataW.Whole enc Try.prog Try.f6.params.toList Rows.journalTagsSpec.vars false W args.toList ds gs before) :
    Calls Try.prog 6 args W fun e W' => ∃ v, e = .returned v ∧ Rows.journalTagsSpec.post enc Try.prog Try.f6 false true false false W args v W' := by
  have hW' := hW
  have hlt : ∀ x ∈ before, x.block < W.heap.size := fun x hx => hW.lt x hx
  obtain ⟨p, q, hA0, hV, rfl, _, _⟩ := hW
  have hA : DataW.TrodAll enc Try.prog W 0 (fun _ => true) true Try.f6.params.toList args.toList ds p := hA0
  rw [Try.params6] at hA hval
  obtain ⟨v0, vs0, d0, ds0, p0, q0, hargs, rfl, rfl, h0, r0⟩ := trodAll_cons hA
  obtain ⟨rfl, rfl, rfl⟩ := trodAll_nil r0
  obtain rfl : args = #[v0] := by cases args; simp_all
  obtain ⟨rfl, rfl⟩ := trodVars_none hV
  clear hA0
  obtain ⟨A0, n0, c0, l0, rfl, hn0, hc0, hm0, hr0⟩ := open_actsL (hval 0 34 v0 rfl rfl) h0
  unfold maxLen at hm0
  refine (tags_walk l0 A0 n0 c0 W hn0 hc0 (by omega) hr0).mono fun e W' ⟨he, hb⟩ => ?_
  subst he
  exact ⟨_, rfl, law_post laid (by kernel_rfl) Try.underlying4 (by rw [Try.params6]; decide +kernel) rfl hW' ⟨rfl, rfl, rfl⟩ hb⟩

set_option maxRecDepth 100000 in
theorem tags_lifted (os : Os) (started : os.Started) (H : Type) (enc : TypeId × Value → H) :
    ReturnsInHanded {} Try.checked os 6 .any (Rows.journalTagsSpec.pre6 enc Try.prog Try.f6 Rows.journalTagsRow.domain false) (Rows.journalTagsSpec.post enc Try.prog Try.f6 false true false false) := by
  refine returnsInHanded_of_change (C := Try.checked) own started (by kernel_rfl) Try.func6
    (ChangeSpec.witness6 (enc := enc) (C := Try.checked) false ⟨#[], #[.slice none 0 0], []⟩ 8 (by kernel_rfl) (by kernel_rfl) (by kernel_rfl) (by kernel_rfl)) ?_
  intro W base args ds gs before hval hW _ _
  exact tags_contract H enc W base args ds gs before hval hW

/-- JournalTags is true for every input. -/
theorem tags_holds : Rows.JournalTagsSaid :=
  OpenClaim.holds_of_wide 6 Try.f6 rfl rfl rfl rfl rfl rfl rfl ⟨rfl, rfl, rfl, rfl, rfl⟩ rfl rfl rfl rfl rfl (by kernel_rfl) Try.func6 (by kernel_rfl)
    (of_decide_eq_true (by kernel_rfl)) (by unfold Func.isWrapper; first | (rw [if_pos (by decide +kernel)]; kernel_rfl) | (rw [if_neg (by decide +kernel)]; exact ⟨rfl, rfl⟩))
    (fun os started H enc _ => tags_lifted os started H enc)
end Go.Proofs.Ytnkpmmijdkcdjaa
