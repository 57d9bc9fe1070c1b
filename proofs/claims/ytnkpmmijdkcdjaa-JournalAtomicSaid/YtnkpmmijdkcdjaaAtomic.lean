/-
  Statement JournalAtomic: whenever the power fails, and whichever writes that are not safe are there, all patches of a commit are there behind an opening that is OK, or none; all, if it was OK; and so on, again and again. No condition.
-/
import Derived.Test.YtnkpmmijdkcdjaaR
import Derived.IntWalk
namespace Go.Proofs.Ytnkpmmijdkcdjaa
open Go.RowKit Go.ChangeShapes Go.WideShapes Go.ChangeAt
attribute [local go_sem ↓] Go.wp_at_zero Go.wp_at_succ

/-- A cut of a disk whose power is on. -/
theorem cut_up {k : Dk Sx} (h : k.dead = false) (n : Int) : (k.cutAt n).safe = k.safe ∧ (k.cutAt n).un = k.un ∧ (k.cutAt n).dead = false := by
  unfold Dk.cutAt
  rw [h]
  exact ⟨rfl, rfl, rfl⟩

/-- The act behind the last. -/
def fin : Act := ⟨2, none, 0, 0, 0, 0, none, 0, 0, 12345, []⟩
theorem fin_good : fin.Good := ⟨by decide, rfl, Nat.le_refl _, Nat.le_refl _, by unfold I64 fin; decide, by decide, fun s hs => by cases hs⟩

set_option maxRecDepth 100000 in
set_option maxHeartbeats 12800000 in
theorem atomic_walk (l : List Act) (A : Option Addr) (n c : Nat) (w : World) (hn : l.length = n) (hc : n ≤ c) (hm : c ≤ 9223372036854775807) (hr : Acts w w.heap.size A l) :
    Calls Try.prog 4 #[.slice A n c] w fun e w' => e = .returned (.bool true) ∧ Below w.heap.size w w' := by
  have Hs := Lib.hid (shown_any w)
  have Hr := Lib.hid hr
  have Hn := Lib.hid hn
  clear hn hr
  go_enter Try.func4, Try.ntmps4
  go_wp2_with (go_at_call 9; refine Hs.out.mono ?_; rintro e w1 ⟨rfl, hb1⟩)
  refine (onew w1).mono ?_
  rintro e w2 ⟨b, rfl, hD2, hb2⟩
  have HD2 := Lib.hid hD2
  have HB1 := Lib.hid hb1.size
  have Hb2 := Lib.hid (hb1.trans (hb2.mono hb1.size))
  clear hD2 hb1 hb2
  go_wp2_with fail
  refine (oopen (B := w.heap.size) (q := 0) (HD2.out.less HB1.out) Hb2.out.size [] img_fresh rfl rfl (by omega)).mono ?_
  rintro e w3 ⟨v, rfl, hO⟩
  rcases hO with ⟨bj, k, rfl, hO3, hR3, _, hc3, hk3, hb3, _⟩ | ⟨h, _⟩
  rotate_left
  · exact absurd h (by decide)
  obtain rfl := hk3 rfl
  have HO3 := Lib.hid hO3
  have HR3 := Lib.hid hR3
  have Hb3 := Lib.hid (Hb2.out.trans hb3)
  clear hO3 hR3 hc3 hb3 hk3
  go_wp2_with fail
  refine (dnow HO3.out.disk HR3.out.dead HR3.out.img.len HR3.out.un).mono ?_
  rintro e w4 ⟨rfl, hb4⟩
  have HO4 := Lib.hid (HO3.out.below hb4)
  have Hb4 := Lib.hid (Hb3.out.trans (hb4.mono Hb3.out.size))
  clear hb4
  obtain ⟨V0, hV0⟩ : ∃ V0, V0 = (Dk.fresh 60 zx).safe.take 12 := ⟨_, rfl⟩
  rw [← hV0]
  have HV0 : Hid ((Dk.fresh 60 zx).safe.take 12 = V0) := hV0.symm
  have HL0 : Hid (V0.length = 12) := by unfold Hid; rw [hV0]; rfl
  obtain ⟨str, hstr⟩ : ∃ str, str = strOf V0 := ⟨_, rfl⟩
  rw [← hstr]
  have Hstr := Lib.hid hstr
  clear hstr hV0
  obtain ⟨i41, hi41, hz0, hz1, hz2⟩ := info_parts info41
  have hbR : Below w4.heap.size w4 (w4.alloc (.cells #[] 41)) := (Below.refl _ _).alloc (Nat.le_refl _) _
  have Hown0 : Hid ((w4.alloc (.cells #[] 41)).ownsRow w.heap.size 41 6 (.slice (some ⟨w4.heap.size, 0, none⟩) 0 0) 0 []) := ⟨rfl, .inr ⟨w4.heap.size, 0, #[], rfl, Hb4.out.size, heap_alloc_new w4 _, Nat.le_refl _, Nat.zero_le _, rfl, rfl⟩⟩
  have HbR := Lib.hid (Hb4.out.trans (hbR.mono Hb4.out.size))
  have HOR := Lib.hid (HO4.out.below hbR)
  have hF := few_any l A n c (w4.alloc (.cells #[] 41)) Hn.out hc hm ((Hr.out.below HbR.out).more HbR.out.size)
  have Hgw : Hid (w.heap.size ≤ w4.heap.size) := Hb4.out.size
  clear hbR
  go_wp2_with fail
  refine hF.mono ?_
  rintro e w' ⟨qn, rfl, hqn, hq40, h60, rfl⟩
  have H60 := Lib.hid h60
  clear h60 hF
  have Hcells : Hid (0 < qn → ∃ ad, A = some ad ∧ ∀ j u, (actsV (l.take qn))[j]? = some u → (w4.alloc (.cells #[] 41)).cell? (ad.add j) = some u) := fun hq => by
    rcases Hr.out.below HbR.out with h | ⟨b0, o, rfl, hb0, h⟩
    · have := Hn.out; rw [h] at this; simp at this; omega
    · refine ⟨_, rfl, fun j u hu => ?_⟩
      rw [Addr.add_mid]
      exact actsV_cells (fun i a hi j u hu => (h i a (by rw [List.getElem?_take] at hi; split at hi <;> first | exact hi | cases hi)).2.1 j u hu) j u hu
  have hlt : (l.take qn).length = qn := by rw [List.length_take, Hn.out]; omega
  have Hlt := Lib.hid hlt
  have Hgood : Hid (∀ a ∈ l.take qn, a.Good ∧ Sets w w.heap.size a.lA a.sets) := fun a ha => by
    obtain ⟨i, hi⟩ := List.mem_iff_getElem?.1 (List.mem_of_mem_take ha)
    rcases Hr.out with h | ⟨b0, o, rfl, hb0, h⟩
    · rw [h] at hi; simp at hi
    · exact ⟨(h i a hi).1, (h i a hi).2.2⟩
  have H60' : Hid (∀ a ∈ l.take qn, a.ln ≤ 60) := fun a ha => by
    obtain ⟨i, hi⟩ := List.mem_iff_getElem?.1 ha
    rw [List.getElem?_take] at hi
    split at hi
    · exact H60.out i a (by assumption) hi
    · cases hi
  clear hlt H60
  go_wp2_with (at_builtin; refine wpList_append_more rfl (.tmp 44) (.tmp 46) 34 rfl w.heap.size 41 i41 _ 6 80 Try.underlying34 hi41 hz0 hz1 hz2 rfl (by decide) w4.heap.size 0 0 [] rfl Hown0.out A qn c (actsV (l.take qn)) rfl ?cl Hcells.out (actsV_one _) ?cm ?cb HbR.out.size ?_)
  case cl => rw [length_actsV, Hlt.out]
  case cm => unfold maxLen; omega
  case cb => omega
  intro g1 cap1 w5 hown1 hgrow1 hg1 hlt1
  have hb5 : Below w.heap.size w w5 := HbR.out.grown hgrow1 HbR.out.size (fun t ht => by cases ht; exact Hgw.out)
  have HO5 := Lib.hid (HOR.out.past (Past.of_grown Hown0.out hgrow1) (by decide))
  have HbF : Hid (Below w5.heap.size w5 (w5.alloc (.cells #[.int .u8 2, .slice none 0 0, .int .i64 0, .int .u8 0, .slice none 0 0, .int .u64 12345] 41))) := (Below.refl _ _).alloc (Nat.le_refl _) _
  have HB5 := Lib.hid hb5
  have hownF := own_below hown1 HbF.out
  have HownF := Lib.hid hownF
  have HbW := Lib.hid (hb5.trans (HbF.out.mono hb5.size))
  have HG1 : Hid (w.heap.size ≤ g1) := by
    rcases hg1 with h | h
    · rw [h]; exact Hgw.out
    · rw [h]; have := HbR.out.size; simp at this; exact this
  clear hown1 hgrow1 hg1 hlt1 hb5 hownF Hown0 Hcells HOR
  go_wp2_with (at_builtin; refine wpList_append_more rfl (.tmp 47) (.tmp 49) 34 rfl w.heap.size 41 i41 _ 6 80 Try.underlying34 hi41 hz0 hz1 hz2 rfl (by decide) g1 cap1 qn (actsV (l.take qn)) rfl HownF.out (some ⟨w5.heap.size, 0, none⟩) 1 1 [.int .u8 2, .slice none 0 0, .int .i64 0, .int .u8 0, .slice none 0 0, .int .u64 12345] rfl rfl ?cn ?co ?cm ?cb HbW.out.size ?_)
  case cn => exact fun _ => ⟨_, rfl, World.news_of_block (cs := #[.int .u8 2, .slice none 0 0, .int .i64 0, .int .u8 0, .slice none 0 0, .int .u64 12345]) (heap_alloc_new w5 _)⟩
  case co => exact fin.cells_one
  case cm => unfold maxLen; omega
  case cb => omega
  intro g cap w6 hown6 hgrow6 hg6 hlt6
  have hb6 : Below w.heap.size w w6 := HbW.out.grown hgrow6 HbW.out.size (fun t ht => by cases ht; exact HG1.out)
  have HO6 := Lib.hid ((HO5.out.below HbF.out).past (Past.of_grown HownF.out hgrow6) (by decide))
  have Hb6 := Lib.hid hb6
  have HlenX : Hid ((l.take qn ++ [fin]).length = qn + 1) := by unfold Hid; rw [List.length_append, Hlt.out]; rfl
  have HX : Hid (Acts2 w6 w.heap.size g (l.take qn ++ [fin])) := by
    refine Acts2.of_owns (base := w.heap.size) (cap := cap) (by rw [HlenX.out, actsV_append]; exact hown6) fun a ha => ?_
    rcases List.mem_append.1 ha with h | h
    · exact ⟨(Hgood.out a h).1, (Hgood.out a h).2.below hb6⟩
    · rw [List.mem_singleton.1 h]
      exact ⟨fin_good, fun i s hs => by simp [fin] at hs⟩
  have HlnX : Hid (∀ a ∈ l.take qn ++ [fin], a.ln ≤ 60) := fun a ha => by
    rcases List.mem_append.1 ha with h | h
    · exact H60'.out a h
    · rw [List.mem_singleton.1 h]; exact Nat.zero_le _
  obtain ⟨X, hX⟩ : ∃ X, X = l.take qn ++ [fin] := ⟨_, rfl⟩
  rw [← hX] at HX HlnX HlenX
  clear hown6 hgrow6 hg6 hlt6 hb6 Hgood H60' HownF HG1 HbF HbW HB5 HO5 Hlt Hgw hX HO4 HO3 Hb2 Hb3 Hb4 HbR HD2 HB1 Hs Hr
  go_wp2
  go_loopw [6, 9, 10, 12, 13, 15, 16, 17, 19, 20, 21, 22, 23, 52] (fun j6 s9 s10 _ _ _ _ _ _ _ _ _ _ i52 wr => ∃ (i q bj : Nat) (k : Dk Sx) (V M : List Sx), i ≤ qn + 1 ∧ i52 = .int .i64 (i : Int) ∧ j6 = .pointer (some ⟨bj, 0, none⟩) ∧ s9 = .string (strOf V) ∧ s10 = .string (strOf M) ∧ V.length = 12 ∧ M.length = 12 ∧ Ours w.heap.size wr bj b 12 48 q k ∧ St i k q V M ∧ Acts2 wr w.heap.size g X ∧ Below w.heap.size w wr) (fun _ _ _ _ _ _ _ _ _ _ _ _ _ i52 _ => qn + 1 - (intOf i52).toNat)
  case atStart => exact ⟨0, 0, bj, Dk.fresh 60 zx, V0, V0, Nat.zero_le _, rfl, rfl, by rw [Hstr.out], by rw [Hstr.out], HL0.out, HL0.out, HO6.out, .inl ⟨HR3.out, Nat.le_refl _, HV0.out⟩, HX.out, Hb6.out⟩
  case round =>
    clear HO6 HR3 HX Hb6 HL0 HV0 Hstr
    obtain ⟨i, q, bj, k, V, M, hi, rfl, rfl, rfl, rfl, hVl, hMl, hO, hS, hX, hb⟩ := hrel
    have HO := Lib.hid hO
    have HS := Lib.hid hS
    have Hb := Lib.hid hb
    have HX := Lib.hid hX
    have HVl := Lib.hid hVl
    have HMl := Lib.hid hMl
    clear hO hS hb hX hVl hMl
    obtain ⟨sV, hsV⟩ : ∃ sV, sV = strOf V := ⟨_, rfl⟩
    obtain ⟨sM, hsM⟩ : ∃ sM, sM = strOf M := ⟨_, rfl⟩
    rw [← hsV, ← hsM]
    have HsV := Lib.hid hsV
    have HsM := Lib.hid hsM
    clear hsV hsM
    by_cases hlt : i < qn + 1
    · obtain ⟨a, ha, hg, hs, c0, c1, c2, c3, c4, c5⟩ := HX.out.at (i := i) (by rw [HlenX.out]; exact hlt)
      have Hg := Lib.hid hg
      have Hsets := Lib.hid hs
      have hln := Lib.hid (HlnX.out a (List.mem_of_getElem? ha))
      have hlc := hg.lc
      have hbc := hg.bc
      have Ha := Lib.hid ha
      clear ha hg hs
      have hkind := Hg.out.kind
      have bA := Bk.new wr 41 [.int .u8 (a.kind : Int), .slice a.lA a.ln a.lc, .int .i64 a.at_, .int .u8 (a.c : Int), .slice a.bA a.bn a.bc, .int .u64 (a.there : Int)]
      have hbA : Below wr.heap.size wr (wr.alloc (.cells #[.int .u8 (a.kind : Int), .slice a.lA a.ln a.lc, .int .i64 a.at_, .int .u8 (a.c : Int), .slice a.bA a.bn a.bc, .int .u64 (a.there : Int)] 41)) := (Below.refl _ _).alloc (Nat.le_refl _) _
      have BA := Lib.hid bA
      have HbA := Lib.hid hbA
      have HbW := Lib.hid (Hb.out.trans (hbA.mono Hb.out.size))
      have HOA := Lib.hid (HO.out.below hbA)
      have HXA := Lib.hid (HX.out.past (hbA.mono Hb.out.size) (Past.of_below hbA) (List.not_mem_nil))
      have hszA : (wr.alloc (.cells #[.int .u8 (a.kind : Int), .slice a.lA a.ln a.lc, .int .i64 a.at_, .int .u8 (a.c : Int), .slice a.bA a.bn a.bc, .int .u64 (a.there : Int)] 41)).heap.size = wr.heap.size + 1 := by simp
      have hlq := HS.out.state.le
      clear bA hbA
      have hlt' : (i : Int) < (qn : Int) + 1 := by omega
      by_cases h0 : a.kind % 6 = 0
      · skip
        have hk0 : ((a.kind : Int) % 6 == 0) = true := by rw [beq_iff_eq]; omega
        obtain ⟨wA, hwA⟩ : ∃ wA, wA = wr.alloc (.cells #[.int .u8 (a.kind : Int), .slice a.lA a.ln a.lc, .int .i64 a.at_, .int .u8 (a.c : Int), .slice a.bA a.bn a.bc, .int .u64 (a.there : Int)] 41) := ⟨_, rfl⟩
        have hA1 := BA.out.cell 1
        rw [← hwA] at HbA HbW HOA HXA hszA
        rw [← hwA] at hA1
        clear BA HO HX
        go_wp2_with fail
        rw [← hwA]
        clear hwA
        go_loopw [13, 15, 64] (fun v13 _ i64 wq => ∃ (j : Nat) (so : List (Int × Nat)), j ≤ a.ln ∧ i64 = .int .i64 (j : Int) ∧ SRow w.heap.size wq v13 so ∧ so.length ≤ 40 ∧ (∀ s ∈ so, 0 ≤ s.1 ∧ s.1 < 12 ∧ s.2 < 256) ∧ Ours w.heap.size wq bj b 12 48 q k ∧ Acts2 wq w.heap.size g X ∧ Below w.heap.size w wq) (fun _ _ i64 _ => a.ln - (intOf i64).toNat)
        case atStart => exact ⟨0, [], Nat.zero_le _, rfl, SRow.nil _ _, Nat.zero_le _, fun s hs => (by cases hs), HOA.out, HXA.out, HbW.out⟩
        case round =>
          clear c0 c1 c2 c3 c4 c5 hA1 HbA HOA HXA HbW hszA Hb
          obtain ⟨j, so, hj, rfl, hso, hsl, hse, hO, hX, hb⟩ := hrel
          have HO := Lib.hid hO
          have HX := Lib.hid hX
          have Hb := Lib.hid hb
          have Hso := Lib.hid hso
          have Hse := Lib.hid hse
          obtain ⟨Aq, cq, rfl, hcq, hcm, hss⟩ := hso.form
          have Hss := Lib.hid hss
          clear hO hX hb hso hse hss
          have hl60 := hln.out
          by_cases hlt2 : j < a.ln
          · obtain ⟨⟨s1, s2⟩, hsj⟩ : ∃ s, a.sets[j]? = some s := ⟨_, List.getElem?_eq_getElem (by rw [Hg.out.len]; exact hlt2)⟩
            obtain ⟨b1, o1, hlA, hb1, d0, d1⟩ := (HX.out.2 i a Ha.out).2.2 j _ hsj
            have hs2 := (Hg.out.sets _ (List.mem_of_getElem? hsj)).2
            simp only at hs2 d0 d1
            have hbB : Below wr.heap.size wr (wr.alloc (.cells #[.int .i64 s1, .int .u8 (s2 : Int)] 43)) := (Below.refl _ _).alloc (Nat.le_refl _) _
            have HbB := Lib.hid hbB
            have HOb := Lib.hid (HO.out.below hbB)
            have HXb := Lib.hid (HX.out.past (hbB.mono Hb.out.size) (Past.of_below hbB) (List.not_mem_nil))
            have Hbb := Lib.hid (Hb.out.trans (hbB.mono Hb.out.size))
            have Hsob := Lib.hid (Hso.out.past (Past.of_below (bad := []) hbB) (List.not_mem_nil))
            have Hs2 := Lib.hid hs2
            clear hbB hsj hb1 hs2
            have hltj : (j : Int) < (a.ln : Int) := by omega
            by_cases hp1 : 0 ≤ s1
            · by_cases hp2 : s1 < 12
              · by_cases hp3 : so.length < 40
                · have hp3' : (so.length : Int) < 40 := by omega
                  have hbL : Below wr.heap.size wr ((wr.alloc (.cells #[.int .i64 s1, .int .u8 (s2 : Int)] 43)).alloc (.cells #[.int .i64 s1, .int .u8 (s2 : Int)] 43)) := HbB.out.alloc (by simp) _
                  have HbL := Lib.hid (Hb.out.trans (hbL.mono Hb.out.size))
                  have HsoL := Lib.hid (Hso.out.past (Past.of_below (bad := []) hbL) (List.not_mem_nil))
                  have HOL := Lib.hid (HO.out.below hbL)
                  have HXL := Lib.hid (HX.out.past (hbL.mono Hb.out.size) (Past.of_below hbL) (List.not_mem_nil))
                  have Hp := Lib.hid (And.intro hp1 hp2)
                  obtain ⟨i43, hi43, hy0, hy1, hy2⟩ := info_parts info43
                  clear hbL HOb HXb Hbb Hsob
                  go_wp2_with (at_builtin; refine wpList_append_lies _ rfl (.tmp 81) (.tmp 83) 38 rfl w.heap.size 43 i43 _ 2 16 Try.underlying38 hi43 hy0 hy1 hy2 rfl (by decide) _ so.length (setsV so) rfl HsoL.out ⟨wr.heap.size + 1, 0, none⟩ 1 1 [.int .i64 s1, .int .u8 (s2 : Int)] rfl rfl ?cc ?oc (by omega) ?cm ?cb HbL.out.size _ rfl ?_)
                  case cc => exact World.news_of_block (cs := #[.int .i64 s1, .int .u8 (s2 : Int)]) (by have h := heap_alloc_new (wr.alloc (.cells #[.int .i64 s1, .int .u8 (s2 : Int)] 43)) (.cells #[.int .i64 s1, .int .u8 (s2 : Int)] 43); simpa using h)
                  case oc => exact setV_one (s1, s2)
                  case cm => unfold maxLen; omega
                  case cb => omega
                  intro g2 cap2 w5 hown5 hgrow5 hat5 hlt5
                  have hso5 : SRow w.heap.size w5 (.slice (some ⟨g2, 0, none⟩) (so.length + 1) cap2) (so ++ [(s1, s2)]) := by
                    unfold SRow
                    rw [setsV_snoc, List.length_append]
                    exact hown5
                  have Y1 := Lib.hid hso5
                  have Y2 := Lib.hid (HOL.out.past (Past.of_grown HsoL.out hgrow5) (by decide))
                  have hb5 : Below w.heap.size w w5 := HbL.out.grown hgrow5 HbL.out.size (fun t ht => (HsoL.out.lt t ht).1)
                  have hb5' : Below w.heap.size _ w5 := (Below.refl _ _).grown hgrow5 HbL.out.size (fun t ht => (HsoL.out.lt t ht).1)
                  have Y3 := Lib.hid (HXL.out.past hb5' (Past.of_grown HsoL.out hgrow5) (by decide))
                  have Y4 := Lib.hid hb5
                  have Y5 : Hid (∀ s ∈ so ++ [(s1, s2)], 0 ≤ s.1 ∧ s.1 < 12 ∧ s.2 < 256) := fun s hs => by
                    rcases List.mem_append.1 hs with h | h
                    · exact Hse.out s h
                    · rw [List.mem_singleton.1 h]; exact ⟨Hp.out.1, Hp.out.2, Hs2.out⟩
                  have Y6 : Hid ((so ++ [(s1, s2)]).length ≤ 40) := by unfold Hid; rw [List.length_append]; simp; omega
                  clear hown5 hgrow5 hat5 hlt5 hso5 hb5 hb5' HsoL HOL HXL HbL
                  go_wp2
                  go_roundw
                  case rel =>
                    rw [hlA]
                    refine ⟨_, _, _, _, _, _, _, _, _, _, _, _, _, _, _, _, _, _, _, _, _, _, _, _, ?rr, rfl⟩
                    exact ⟨j + 1, _, by omega, by go_num, Y1.out, Y6.out, Y5.out, Y2.out, Y3.out, Y4.out⟩
                  case measure => simp [intOf]; omega
                · have hp3' : ¬ ((so.length : Int) < 40) := by omega
                  go_wp2
                  go_roundw
                  case rel => exact ⟨j + 1, so, by omega, by go_num, Hsob.out, by omega, Hse.out, HOb.out, HXb.out, Hbb.out⟩
                  case measure => simp [intOf]; omega
              · go_wp2
                go_roundw
                case rel => exact ⟨j + 1, so, by omega, by go_num, Hsob.out, hsl, Hse.out, HOb.out, HXb.out, Hbb.out⟩
                case measure => simp [intOf]; omega
            · go_wp2
              go_roundw
              case rel => exact ⟨j + 1, so, by omega, by go_num, Hsob.out, hsl, Hse.out, HOb.out, HXb.out, Hbb.out⟩
              case measure => simp [intOf]; omega
          · obtain rfl : j = a.ln := by omega
            have hltj : ¬ ((a.ln : Int) < (a.ln : Int)) := by omega
            have HDD := Lib.hid (ddead HO.out.disk)
            rcases HS.out.dead with ⟨hdk, hF, hqF⟩ | ⟨hdk, hRk, hqR, hVk⟩
            · rw [hdk] at HDD
              go_wp2_with fail
              refine HDD.out.mono ?_
              rintro e w' ⟨rfl, rfl⟩
              go_wp2
              go_roundw
              case rel => exact ⟨i + 1, q, bj, k, V, M, by omega, by go_num, rfl, by rw [HsV.out], by rw [HsM.out], HVl.out, HMl.out, HO.out, HS.out.up (by omega), HX.out, Hb.out⟩
              case measure => simp [intOf]; omega
            · rw [hdk] at HDD
              have HRk := Lib.hid hRk
              have HVk := Lib.hid hVk
              have Hok : Hid (okSets so) := ⟨by omega, fun s hs => ⟨(Hse.out s hs).1, (Hse.out s hs).2.1⟩⟩
              clear hRk hVk hdk
              go_wp2_with fail
              refine HDD.out.mono ?_
              rintro e w' ⟨rfl, rfl⟩
              go_wp2_with fail
              refine (patches_any 0 Aq so.length cq (.int .i64 0) (.int .u8 0) (.slice none 0 0) (.int .u64 0) rfl rfl rfl rfl (by decide) (by decide) so rfl (by omega) _ Hss.out (fun s hs => (Hse.out s hs).2.2)).mono ?_
              rintro e w4' ⟨Ap, cp, rfl, hcp, hpos, hP, hb4⟩
              have Hcm := Lib.hid (ocommit HO.out Hb.out.size hb4 HRk.out.img.len (by rw [HRk.out.un]; decide) (by omega) so Ap so.length cp rfl hcp (by omega) hpos hP)
              have HX4 := Lib.hid (HX.out.past (hb4.mono Hb.out.size) (Past.of_below hb4) (List.not_mem_nil))
              have Hso4 := Lib.hid (Hso.out.past (Past.of_below (bad := []) hb4) (List.not_mem_nil))
              have Hb4' := Lib.hid (Hb.out.trans (hb4.mono Hb.out.size))
              clear hb4 hP hpos hcp
              go_wp2_with fail
              refine Hcm.out.mono ?_
              rintro e w5' ⟨v, q', k', rfl, hdid, hO5, hb5, he5⟩
              have Hex := Lib.hid (hdid.exact Hok.out HRk.out (by omega))
              have HO5 := Lib.hid hO5
              have HX5 := Lib.hid (HX4.out.past hb5 (Past.of_else he5) (by decide))
              have Hso5 := Lib.hid (Hso4.out.past (Past.of_else he5) (by decide))
              have Hb5 := Lib.hid (Hb4'.out.trans hb5)
              have hszV : sV.size = 768 := by rw [HsV.out, size_strOf, HVl.out]
              have hcv := run_conv w5' sV
              rw [hszV] at hcv
              have hbc := convW_below w5' sV
              have hbuf := convW_buf w5' V HVl.out
              rw [← HsV.out] at hbuf
              obtain ⟨cpb, hcpb⟩ : ∃ cpb, cpb = capW w5' sV := ⟨_, rfl⟩
              have Hcpb : Hid (768 ≤ cpb) := by
                unfold Hid
                rw [hcpb, ← hszV]
                exact grownCap_ge _ _ _ _
              rw [← hcpb] at hcv
              obtain ⟨wC, hwC⟩ : ∃ wC, wC = convW w5' sV := ⟨_, rfl⟩
              obtain ⟨gb, hgb⟩ : ∃ gb, gb = w5'.heap.size := ⟨_, rfl⟩
              rw [← hwC] at hcv hbc hbuf
              rw [← hgb] at hcv hbuf
              have HOC := Lib.hid (HO5.out.below hbc)
              have HXC := Lib.hid (HX5.out.past (hbc.mono Hb5.out.size) (Past.of_below hbc) (List.not_mem_nil))
              have HsoC := Lib.hid (Hso5.out.past (Past.of_below (bad := []) hbc) (List.not_mem_nil))
              have HbC := Lib.hid (Hb5.out.trans (hbc.mono Hb5.out.size))
              have Hbuf := Lib.hid hbuf
              have Hgb : Hid (w.heap.size ≤ gb) := by rw [hgb]; exact Hb5.out.size
              clear hdid hO5 hb5 he5 hbc hbuf hcpb hwC hgb hszV HO5 HX5 Hso5 Hb5 HO HX Hso Hb Hss HX4 Hso4 Hb4' Hcm HDD
              go_wp2
              go_loopw [19, 97] (fun _ i97 wq => ∃ j : Nat, j ≤ so.length ∧ i97 = .int .i64 (j : Int) ∧ Buf wq gb (puts V (natP (so.take j))) ∧ SRow w.heap.size wq (.slice Aq so.length cq) so ∧ Ours w.heap.size wq bj b 12 48 q' k' ∧ Acts2 wq w.heap.size g X ∧ Below w.heap.size w wq) (fun _ i97 _ => so.length - (intOf i97).toNat)
              case atStart => exact ⟨0, Nat.zero_le _, rfl, Hbuf.out, HsoC.out, HOC.out, HXC.out, HbC.out⟩
              case round =>
                clear hcv HOC HXC HsoC HbC Hbuf
                obtain ⟨j, hj, rfl, hB, hso, hO, hX, hb⟩ := hrel
                have HO := Lib.hid hO
                have HX := Lib.hid hX
                have Hb := Lib.hid hb
                have Hso := Lib.hid hso
                have HB := Lib.hid hB
                obtain ⟨Aq2, cq2, hAq, _, _, hss⟩ := hso.form
                obtain ⟨rfl, _, rfl⟩ : Aq2 = Aq ∧ so.length = so.length ∧ cq2 = cq := by injection hAq with h1 h2 h3; exact ⟨h1.symm, h2, h3.symm⟩
                have Hss := Lib.hid hss
                clear hO hX hb hso hss hB hAq
                by_cases hlt3 : j < so.length
                · obtain ⟨⟨s1, s2⟩, hsj⟩ : ∃ s, so[j]? = some s := ⟨_, List.getElem?_eq_getElem hlt3⟩
                  obtain ⟨b1, o1, rfl, hb1, d0, d1⟩ := Hss.out j _ hsj
                  have hs3 := Hse.out _ (List.mem_of_getElem? hsj)
                  simp only at hs3 d0 d1
                  obtain ⟨sn, rfl⟩ : ∃ sn : Nat, s1 = (sn : Int) := ⟨s1.toNat, by omega⟩
                  have hsn : sn < 12 := by omega
                  have Hs2 : Hid (s2 < 256) := hs3.2.2
                  have Hnext : Hid (puts V (natP (so.take (j + 1))) = (puts V (natP (so.take j))).set sn (cx s2)) := by
                    obtain ⟨h1, h2⟩ := List.getElem?_eq_some_iff.1 hsj
                    unfold Hid
                    rw [List.take_succ_eq_append_getElem h1, h2, natP, List.map_append, puts_append]
                    rfl
                  have hltj3 : (j : Int) < (so.length : Int) := by omega
                  have hbB : Below wr.heap.size wr (wr.alloc (.cells #[.int .i64 (sn : Int), .int .u8 (s2 : Int)] 43)) := (Below.refl _ _).alloc (Nat.le_refl _) _
                  have HbB := Lib.hid hbB
                  have e0 := (Bk.new wr 43 [.int .i64 (sn : Int), .int .u8 (s2 : Int)]).cell 0
                  have e1 := (Bk.new wr 43 [.int .i64 (sn : Int), .int .u8 (s2 : Int)]).cell 1
                  have hszW : (wr.alloc (.cells #[.int .i64 (sn : Int), .int .u8 (s2 : Int)] 43)).heap.size = wr.heap.size + 1 := by simp
                  have HszW := Lib.hid hszW
                  have HBB := Lib.hid (HB.out.below hbB)
                  have Hgbq0 : Hid (gb < wr.heap.size) := HB.out.lt
                  have HOb := Lib.hid (HO.out.below hbB)
                  have HXb := Lib.hid (HX.out.past (hbB.mono Hb.out.size) (Past.of_below hbB) (List.not_mem_nil))
                  have Hbb := Lib.hid (Hb.out.trans (hbB.mono Hb.out.size))
                  have Hsob := Lib.hid (Hso.out.past (Past.of_below (bad := []) hbB) (List.not_mem_nil))
                  obtain ⟨W, hW⟩ : ∃ W, W = wr.alloc (.cells #[.int .i64 (sn : Int), .int .u8 (s2 : Int)] 43) := ⟨_, rfl⟩
                  rw [← hW] at e0 e1 HszW HBB HOb HXb Hbb Hsob HbB
                  clear hbB hsj hb1 hs3 hszW HB HO HX Hb Hso
                  go_wp2_with fail
                  rw [← hW]
                  have HgW : Hid (wr.heap.size < W.heap.size) := by rw [HszW.out]; exact Nat.lt_succ_self _
                  obtain ⟨gq, hgq⟩ : ∃ gq, gq = wr.heap.size := ⟨_, rfl⟩
                  have HgW : Hid (gq < W.heap.size) := by rw [HszW.out, hgq]; exact Nat.lt_succ_self _
                  have Hgbq : Hid (gb < gq) := by rw [hgq]; exact Hgbq0.out
                  rw [← hgq] at e0 e1 ⊢
                  clear hW hgq HszW
                  have HBD : Hid (Buf W.drew gb (puts V (natP (so.take j)))) := HBB.out.keep rfl
                  have x1 : IntKind.i64.wrap ((sn : Int) * 64) = (sn : Int) * 64 := IntWalk.i64_in _ (by omega)
                  have x2 : IntKind.i64.wrap ((sn : Int) + 1) = (sn : Int) + 1 := IntWalk.i64_in _ (by omega)
                  have x3 : IntKind.i64.wrap (((sn : Int) + 1) * 64) = ((sn : Int) + 1) * 64 := IntWalk.i64_in _ (by omega)
                  have hcp := Hcpb.out
                  have x4 : (0 : Int) ≤ (sn : Int) * 64 := by omega
                  have x5 : (sn : Int) * 64 ≤ ((sn : Int) + 1) * 64 := by omega
                  have x6 : ((sn : Int) + 1) * 64 ≤ (cpb : Int) := by omega
                  have x7 : ((sn : Int) * 64).toNat = sn * 64 := by omega
                  have x8 : (((sn : Int) + 1) * 64).toNat = sn * 64 + 64 := by omega
                  have x9 : max (((sn : Int) + 1) * 64) 0 = ((sn : Int) + 1) * 64 := by omega
                  have y0 : (0 : Int) ≤ ((sn : Int) + 1) * 64 := by omega
                  have y1 : ¬ cpb = sn * 64 := by omega
                  have y2 : (sn : Int) * 64 ≤ (sn : Int) * 64 + 64 := by omega
                  refine wp_region_held_drew (S := fun w' : World => w'.cell? ⟨gq, 0, none⟩ = some (.int .i64 (sn : Int)) ∧ w'.cell? ⟨gq, 1, none⟩ = some (.int .u8 (s2 : Int))) (by kernel_rfl) ⟨e0, e1⟩ (fun hHeld => ?_)
                  refine wpAnyH_take (i := 0) (oi := _) (v := ?_) (by simp only [List.getElem?_toArray, List.getElem?_cons_zero]; rfl) (by kernel_rfl) (by kernel_rfl) (by kernel_rfl) (by exact fun _ _ _ h => h) (Or.inl ⟨by rfl, ?hyz0⟩) (by assumption) ?rez0
                  case hyz0 => (rintro w ⟨hA1, hA2⟩; go_simp <;> with_reducible rfl)
                  try simp only [Act.put, List.setIfInBounds_toArray, List.set_cons_zero, List.set_cons_succ]
                  refine wpAnyH_take (i := 1) (oi := _) (v := ?_) (by simp only [List.getElem?_toArray, List.getElem?_cons_succ, List.getElem?_cons_zero]; rfl) (by kernel_rfl) (by kernel_rfl) (by kernel_rfl) (by exact fun _ _ _ h => h) (Or.inl ⟨by rfl, ?hyz1⟩) (by assumption) ?rez1
                  case hyz1 => (rintro w ⟨hA1, hA2⟩; go_simp <;> with_reducible rfl)
                  try simp only [Act.put, List.setIfInBounds_toArray, List.set_cons_zero, List.set_cons_succ]
                  refine wpAnyH_take (i := 2) (oi := _) (v := ?_) (by simp only [List.getElem?_toArray, List.getElem?_cons_succ, List.getElem?_cons_zero]; rfl) (by kernel_rfl) (by kernel_rfl) (by kernel_rfl) (by exact fun _ _ _ h => h) (Or.inl ⟨by rfl, ?hyz2⟩) (by assumption) ?rez2
                  case hyz2 => (rintro w ⟨hA1, hA2⟩; go_simp <;> with_reducible rfl)
                  try simp only [Act.put, List.setIfInBounds_toArray, List.set_cons_zero, List.set_cons_succ]
                  refine wpAnyH_take (i := 3) (oi := _) (v := ?_) (by simp only [List.getElem?_toArray, List.getElem?_cons_succ, List.getElem?_cons_zero]; rfl) (by kernel_rfl) (by kernel_rfl) (by kernel_rfl) (by exact fun _ _ _ h => h) (Or.inl ⟨by rfl, ?hyz3⟩) (by assumption) ?rez3
                  case hyz3 => (rintro w ⟨hA1, hA2⟩; go_simp <;> with_reducible rfl)
                  try simp only [Act.put, List.setIfInBounds_toArray, List.set_cons_zero, List.set_cons_succ]
                  refine wpAnyH_take (i := 4) (oi := _) (v := ?_) (by simp only [List.getElem?_toArray, List.getElem?_cons_succ, List.getElem?_cons_zero]; rfl) (by kernel_rfl) (by kernel_rfl) (by kernel_rfl) (by exact fun _ _ _ h => h) (Or.inl ⟨by rfl, ?hyz4⟩) (by assumption) ?rez4
                  case hyz4 => (rintro w ⟨hA1, hA2⟩; go_simp <;> with_reducible rfl)
                  try simp only [Act.put, List.setIfInBounds_toArray, List.set_cons_zero, List.set_cons_succ]
                  refine wpAnyH_take (i := 5) (oi := _) (v := ?_) (by simp only [List.getElem?_toArray, List.getElem?_cons_succ, List.getElem?_cons_zero]; rfl) (by kernel_rfl) (by kernel_rfl) (by kernel_rfl) (by exact fun _ _ _ h => h) (Or.inl ⟨by rfl, ?hyz5⟩) (by assumption) ?rez5
                  case hyz5 => (rintro w ⟨hA1, hA2⟩; go_simp <;> with_reducible rfl)
                  try simp only [Act.put, List.setIfInBounds_toArray, List.set_cons_zero, List.set_cons_succ]
                  refine wpAnyH_take (i := 6) (oi := _) (v := ?_) (by simp only [List.getElem?_toArray, List.getElem?_cons_succ, List.getElem?_cons_zero]; rfl) (by kernel_rfl) (by kernel_rfl) (by kernel_rfl) (by exact fun _ _ _ h => h) (Or.inl ⟨by rfl, ?hyz6⟩) (by assumption) ?rez6
                  case hyz6 => (rintro w ⟨hA1, hA2⟩; go_simp <;> with_reducible rfl)
                  try simp only [Act.put, List.setIfInBounds_toArray, List.set_cons_zero, List.set_cons_succ]
                  refine wpAnyH_take (i := 7) (oi := _) (v := ?_) (by simp only [List.getElem?_toArray, List.getElem?_cons_succ, List.getElem?_cons_zero]; rfl) (by kernel_rfl) (by kernel_rfl) (by kernel_rfl) (by exact fun _ _ _ h => h) (Or.inl ⟨by rfl, ?hyz7⟩) (by assumption) ?rez7
                  case hyz7 => (rintro w ⟨hA1, hA2⟩; go_simp <;> with_reducible rfl)
                  try simp only [Act.put, List.setIfInBounds_toArray, List.set_cons_zero, List.set_cons_succ]
                  refine wpAnyH_take (i := 8) (oi := _) (v := ?_) (by simp only [List.getElem?_toArray, List.getElem?_cons_succ, List.getElem?_cons_zero]; rfl) (by kernel_rfl) (by kernel_rfl) (by kernel_rfl) (by exact fun _ _ _ h => h) (Or.inl ⟨by rfl, ?hyz8⟩) (by assumption) ?rez8
                  case hyz8 => (rintro w ⟨hA1, hA2⟩; go_simp <;> with_reducible rfl)
                  try simp only [Act.put, List.setIfInBounds_toArray, List.set_cons_zero, List.set_cons_succ]
                  refine wpAnyH_take (i := 9) (oi := _) (v := ?_) (by simp only [List.getElem?_toArray, List.getElem?_cons_succ, List.getElem?_cons_zero]; rfl) (by kernel_rfl) (by kernel_rfl) (by kernel_rfl) (by exact fun _ _ _ h => h) (Or.inl ⟨by rfl, ?hyz9⟩) (by assumption) ?rez9
                  case hyz9 => (rintro w ⟨hA1, hA2⟩; go_simp <;> with_reducible rfl)
                  try simp only [Act.put, List.setIfInBounds_toArray, List.set_cons_zero, List.set_cons_succ]
                  refine wpAnyH_take (i := 10) (oi := _) (v := ?_) (by simp only [List.getElem?_toArray, List.getElem?_cons_succ, List.getElem?_cons_zero]; rfl) (by kernel_rfl) (by kernel_rfl) (by kernel_rfl) (by exact fun _ _ _ h => h) (Or.inl ⟨by rfl, ?hyz10⟩) (by assumption) ?rez10
                  case hyz10 => (rintro w ⟨hA1, hA2⟩; go_simp <;> with_reducible rfl)
                  try simp only [Act.put, List.setIfInBounds_toArray, List.set_cons_zero, List.set_cons_succ]
                  refine wpAnyH_ready (rs := [11]) (by kernel_rfl) (by simp) ?_
                  refine AllReadyH.cons (o := _) (by simp only [List.getElem?_toArray, List.getElem?_cons_succ, List.getElem?_cons_zero]; rfl) (fun K hK => ?_) AllReadyH.nil
                  go_simp
                  refine (patch_any 0 s2 Hs2.out _).mono ?_
                  rintro e w7 ⟨g7, rfl, hg7, hB7, hb7⟩
                  have hfd := fun W => run_field49 0 (.slice (some ⟨g7, 0, none⟩) 64 64) (s2 : Int) W ⟨_, _, _, rfl⟩
                  have HP7 : Hid (∀ j u, (bytesV (cx s2).b)[j]? = some u → w7.cell? ⟨g7, j, none⟩ = some u) := (fun j u hu => by rw [hB7.cell, ← cx_bytes s2 Hs2.out]; exact hu)
                  have HBuf7 := Lib.hid (HBD.out.below hb7)
                  have Hb7 := Lib.hid hb7
                  have k7 := And.intro ((hb7.cell (p := ⟨gq, 0, none⟩) HgW.out).trans e0) ((hb7.cell (p := ⟨gq, 1, none⟩) HgW.out).trans e1)
                  clear hB7 hb7
                  refine hK.out _ _ k7 (fun hHeld2 => ?_)
                  clear hK K hHeld
                  refine wpAnyH_take (i := 12) (oi := _) (v := ?_) (by simp only [List.getElem?_toArray, List.getElem?_cons_succ, List.getElem?_cons_zero]; rfl) (by kernel_rfl) (by kernel_rfl) (by kernel_rfl) (by exact fun _ _ _ h => h) (Or.inl ⟨by rfl, ?hyz12⟩) (by assumption) ?rez12
                  case hyz12 => (rintro w ⟨hA1, hA2⟩; go_simp <;> with_reducible rfl)
                  try simp only [Act.put, List.setIfInBounds_toArray, List.set_cons_zero, List.set_cons_succ]
                  refine wpAnyH_ready (rs := [13]) (by kernel_rfl) (by simp) ?_
                  refine AllReadyH.cons (o := _) (by simp only [List.getElem?_toArray, List.getElem?_cons_succ, List.getElem?_cons_zero]; rfl) (fun K hK => ?_) AllReadyH.nil
                  refine step_copy_buf rfl (.tmp 109) (.tmp 113) rfl (g := gb) (at_ := sn * 64) (ln := 64) (cd := cpb - sn * 64) rfl rfl (gp := g7) (cp := 64) rfl _ HBuf7.out sn hsn rfl (cx s2) HP7.out ?_
                  have k8 := And.intro ((World.cell?_setCells_out gb (bytesV (cx s2).b) (sn * 64) w7 ⟨gq, 0, none⟩ (fun h _ => absurd h (Nat.ne_of_gt Hgbq.out))).trans k7.1) ((World.cell?_setCells_out gb (bytesV (cx s2).b) (sn * 64) w7 ⟨gq, 1, none⟩ (fun h _ => absurd h (Nat.ne_of_gt Hgbq.out))).trans k7.2)
                  refine hK.out _ _ k8 (fun hHeld => ?_)
                  clear hK K hHeld2
                  try simp only [Act.put, List.setIfInBounds_toArray, List.set_cons_zero, List.set_cons_succ]
                  refine wpAnyH_done (by kernel_rfl) ?_ _
                  have Hb7w : Hid (Below W.heap.size W w7) := (Below.refl _ W).drew.trans Hb7.out
                  have HOx := Lib.hid ((HOb.out.below Hb7w.out).past (HBuf7.out.over (sn * 64) (bytesV (cx s2).b)) (by decide))
                  have hbx : Below w.heap.size w7 (w7.setCells gb (sn * 64) (bytesV (cx s2).b)) := below_setCells gb Hgb.out _ _ _ (Below.refl _ _)
                  have HXx := Lib.hid ((HXb.out.past (Hb7w.out.mono Hbb.out.size) (Past.of_below Hb7w.out) (List.not_mem_nil)).past hbx (HBuf7.out.over (sn * 64) (bytesV (cx s2).b)) (by decide))
                  have Hbx := Lib.hid ((Hbb.out.trans (Hb7w.out.mono Hbb.out.size)).trans hbx)
                  have Hsox := Lib.hid ((Hsob.out.past (Past.of_below (bad := []) Hb7w.out) (List.not_mem_nil)).past (HBuf7.out.over (sn * 64) (bytesV (cx s2).b)) (by decide))
                  have HBx : Hid (Buf (w7.setCells gb (sn * 64) (bytesV (cx s2).b)) gb (puts V (natP (so.take (j + 1))))) := by rw [Hnext.out]; exact HBuf7.out.copied hsn (cx s2)
                  clear hbx e0 e1 k7 k8 hfd HP7 HBuf7 Hb7w Hb7 HBD HBB HOb HXb Hbb Hsob x1 x2 x3 x4 x5 x6 x7 x8 x9 y0 y1 y2
                  go_wp2
                  go_roundw
                  case rel => exact ⟨j + 1, by omega, by go_num, HBx.out, Hsox.out, HOx.out, HXx.out, Hbx.out⟩
                  case measure => simp [intOf]; omega
                · obtain rfl : j = so.length := by omega
                  have hltj3 : ¬ ((so.length : Int) < (so.length : Int)) := by omega
                  have hall : so.take so.length = so := List.take_length
                  rw [hall] at HB
                  have htx := HB.out.text cpb
                  obtain ⟨M', hM'⟩ : ∃ M', M' = puts V (natP so) := ⟨_, rfl⟩
                  rw [← hM'] at htx
                  have HMl' : Hid (M'.length = 12) := by unfold Hid; rw [hM', length_puts, HVl.out]
                  obtain ⟨sM', hsM'⟩ : ∃ sM', sM' = strOf M' := ⟨_, rfl⟩
                  rw [← hsM'] at htx
                  have HsM' := Lib.hid hsM'
                  have HexM : Hid ((v = 0 ∧ Rest k' q' ∧ q' ≤ q + 1 ∧ k'.safe.take 12 = M') ∨ (v = 6 ∧ Fell (q + 1) k' (fun X => X = V ∨ X = M') ∧ q' = q)) := by
                    have h := Hex.out
                    rw [HVk.out, ← hM'] at h
                    exact h
                  clear hsM' hM' hall HB Hso Hss
                  rcases HexM.out with ⟨rfl, hRx, hqx, hVx⟩ | ⟨rfl, hFx, hqx⟩
                  · have HRx := Lib.hid hRx
                    have HVx := Lib.hid hVx
                    clear hRx hVx
                    have hss : (sM'.toList == sM'.toList) = true := by simp
                    go_wp2_with fail
                    refine (dnow HO.out.disk HRx.out.dead HRx.out.img.len HRx.out.un).mono ?_
                    rintro e w6' ⟨rfl, hb6⟩
                    rw [HVx.out, ← HsM'.out]
                    have Z1 := Lib.hid (HO.out.below hb6)
                    have Z2 := Lib.hid (HX.out.past (hb6.mono Hb.out.size) (Past.of_below hb6) (List.not_mem_nil))
                    have Z3 := Lib.hid (Hb.out.trans (hb6.mono Hb.out.size))
                    clear hb6
                    go_wp2
                    go_roundw
                    case rel => exact ⟨i + 1, q', bj, k', M', M', by omega, by go_num, rfl, by rw [HsM'.out], by rw [HsM'.out], HMl'.out, HMl'.out, Z1.out, .inl ⟨HRx.out, by omega, HVx.out⟩, Z2.out, Z3.out⟩
                    case measure => simp [intOf]; omega
                  · have HFx := Lib.hid hFx
                    clear hFx
                    have HDx := Lib.hid (ddead HO.out.disk)
                    rw [HFx.out.dead] at HDx
                    go_wp2_with fail
                    refine HDx.out.mono ?_
                    rintro e w' ⟨rfl, rfl⟩
                    go_wp2
                    go_roundw
                    case rel => exact ⟨i + 1, q', bj, k', V, M', by omega, by go_num, rfl, by rw [HsV.out], by rw [HsM'.out], HVl.out, HMl'.out, HO.out, .inr ⟨HFx.out.up (by omega) (fun _ h => h), by omega⟩, HX.out, Hb.out⟩
                    case measure => simp [intOf]; omega
      by_cases h1 : a.kind % 6 = 1
      · skip
        have hk1 : ((a.kind : Int) % 6 == 1) = true := by rw [beq_iff_eq]; omega
        have hk0' : ((a.kind : Int) % 6 == 0) = false := by rw [beq_eq_false_iff_ne]; omega
        go_wp2_with fail
        refine (ocut HOA.out HbW.out.size a.at_).mono ?_
        rintro e w5 ⟨rfl, hO5, hb5, he5⟩
        have Z1 := Lib.hid hO5
        have Z2 := Lib.hid ((HS.out.cut a.at_).up (N' := i + 1) (by omega))
        have Z3 := Lib.hid (HbW.out.trans hb5)
        have Z4 := Lib.hid (HXA.out.past hb5 (Past.of_else he5) (by decide))
        clear hO5 hb5 he5
        go_wp2
        go_roundw
        case rel => exact ⟨i + 1, q, bj, _, V, M, by omega, by go_num, rfl, by rw [HsV.out], by rw [HsM.out], HVl.out, HMl.out, Z1.out, Z2.out, Z4.out, Z3.out⟩
        case measure => simp [intOf]; omega
      by_cases h2 : a.kind % 6 = 2
      · skip
        have hk2 : ((a.kind : Int) % 6 == 2) = true := by rw [beq_iff_eq]; omega
        have hk0' : ((a.kind : Int) % 6 == 0) = false := by rw [beq_eq_false_iff_ne]; omega
        have hk1' : ((a.kind : Int) % 6 == 1) = false := by rw [beq_eq_false_iff_ne]; omega
        go_wp2_with fail
        refine (ocrash HOA.out HbW.out.size HS.out.state.len.2 a.there Hg.out.there).mono ?_
        rintro e w7 ⟨rfl, hO7, hb7, he7⟩
        obtain ⟨q2, l2, hI, hq2, hP2, hu, hd, hcut⟩ := HS.out.state.crash a.there
        have HO7 := Lib.hid hO7
        have Hb7 := Lib.hid (HbW.out.trans hb7)
        have HX7 := Lib.hid (HXA.out.past hb7 (Past.of_else he7) (by decide))
        have BA7 : Hid (Bk w7 wr.heap.size 41 [.int .u8 (a.kind : Int), .slice a.lA a.ln a.lc, .int .i64 a.at_, .int .u8 (a.c : Int), .slice a.bA a.bn a.bc, .int .u64 (a.there : Int)]) := he7.bk BA.out (by decide)
        have hc7 := BA7.out.cell 2
        have hc75 := BA7.out.cell 5
        have HI := Lib.hid hI
        have Hq2 := Lib.hid hq2
        have HP2 := Lib.hid hP2
        have Hu := Lib.hid hu
        have Hd := Lib.hid hd
        clear hO7 hb7 he7 hI hP2 hu hd hcut
        go_wp2_with fail
        refine (ocut HO7.out Hb7.out.size a.at_).mono ?_
        rintro e w8 ⟨rfl, hO8, hb8, he8⟩
        have Hk8 := Lib.hid (cut_up Hd.out a.at_)
        have HO8 := Lib.hid hO8
        have Hb8 := Lib.hid (Hb7.out.trans hb8)
        have HX8 := Lib.hid (HX7.out.past hb8 (Past.of_else he8) (by decide))
        have BA8 : Hid (Bk w8 wr.heap.size 41 [.int .u8 (a.kind : Int), .slice a.lA a.ln a.lc, .int .i64 a.at_, .int .u8 (a.c : Int), .slice a.bA a.bn a.bc, .int .u64 (a.there : Int)]) := he8.bk BA7.out (by decide)
        clear hO8 hb8 he8 hc7 hc75
        have HI8 : Hid (Img ((k.crash a.there).cutAt a.at_).safe q2 l2) := by unfold Hid; rw [Hk8.out.1]; exact HI.out
        have HV8 : Hid ((puts ((k.crash a.there).cutAt a.at_).safe l2).take 12 = V ∨ (puts ((k.crash a.there).cutAt a.at_).safe l2).take 12 = M) := by unfold Hid; rw [Hk8.out.1]; exact HP2.out
        have Hu8 : Hid (((k.crash a.there).cutAt a.at_).un = []) := by unfold Hid; rw [Hk8.out.2.1]; exact Hu.out
        have Hd8 : Hid (((k.crash a.there).cutAt a.at_).dead = false) := Hk8.out.2.2
        obtain ⟨k8, hk8⟩ : ∃ k8, k8 = (k.crash a.there).cutAt a.at_ := ⟨_, rfl⟩
        rw [← hk8] at HI8 HV8 Hu8 Hd8 HO8
        clear hk8 Hk8 HI HP2 Hu Hd
        go_wp2_with fail
        refine (oopen (B := w.heap.size) (q := q2) HO8.out.disk Hb8.out.size l2 HI8.out Hu8.out Hd8.out (by omega)).mono ?_
        rintro e w9 ⟨v9, rfl, hO9⟩
        rcases hO9 with ⟨bjn, kn, rfl, ho9, hR9, hV9, _, _, hb9, he9⟩ | ⟨_, k9, rfl, hO9, hF9, hb9, he9⟩
        · have HOn := Lib.hid ho9
          have HRn := Lib.hid hR9
          obtain ⟨Vn, hVn⟩ : ∃ Vn, Vn = kn.safe.take 12 := ⟨_, rfl⟩
          have HVn : Hid (kn.safe.take 12 = Vn) := hVn.symm
          have HVnl : Hid (Vn.length = 12) := by unfold Hid; rw [hVn, List.length_take, hR9.img.len]; rfl
          have HVm : Hid (Vn = V ∨ Vn = M) := by unfold Hid; rw [hVn, hV9]; exact HV8.out
          have Hbn := Lib.hid (Hb8.out.trans hb9)
          have HXn := Lib.hid (HX8.out.past hb9 (Past.of_else he9) (by decide))
          obtain ⟨sN, hsN⟩ : ∃ sN, sN = strOf Vn := ⟨_, rfl⟩
          have HsN := Lib.hid hsN
          obtain ⟨qn2, hqn2⟩ : ∃ qn2, qn2 = q2 := ⟨_, rfl⟩
          rw [← hqn2] at HOn HRn
          have hq2' : qn2 ≤ i := by omega
          clear ho9 hR9 hV9 hb9 he9 hVn hsN hqn2
          go_wp2_with fail
          refine (ocut HOn.out Hbn.out.size (-1)).mono ?_
          rintro e wc ⟨rfl, hOc, hbc', hec⟩
          have Hkd := Lib.hid (cut_up HRn.out.dead (-1))
          have HRc : Hid (Rest (kn.cutAt (-1)) qn2) := ⟨by rw [Hkd.out.1]; exact HRn.out.img, by rw [Hkd.out.2.1]; exact HRn.out.un, Hkd.out.2.2⟩
          have HVc : Hid ((kn.cutAt (-1)).safe.take 12 = Vn) := by unfold Hid; rw [Hkd.out.1]; exact HVn.out
          have HOc := Lib.hid hOc
          have Hbc := Lib.hid (Hbn.out.trans hbc')
          have HXc := Lib.hid (HXn.out.past hbc' (Past.of_else hec) (by decide))
          clear hOc hbc' hec
          obtain ⟨kc, hkc⟩ : ∃ kc, kc = kn.cutAt (-1) := ⟨_, rfl⟩
          rw [← hkc] at HOc HRc HVc
          clear hkc Hkd
          go_wp2_with fail
          refine (dnow HOc.out.disk HRc.out.dead HRc.out.img.len HRc.out.un).mono ?_
          rintro e wd ⟨rfl, hbd⟩
          rw [HVc.out, ← HsN.out]
          have HOd := Lib.hid (HOc.out.below hbd)
          have Hbd := Lib.hid (Hbc.out.trans (hbd.mono Hbc.out.size))
          have HXd := Lib.hid (HXc.out.past (hbd.mono Hbc.out.size) (Past.of_below hbd) (List.not_mem_nil))
          clear hbd
          cases h1c : (sN.toList == sV.toList) with
          | true =>
            go_wp2_with fail
            refine (dnow HOd.out.disk HRc.out.dead HRc.out.img.len HRc.out.un).mono ?_
            rintro e we ⟨rfl, hbe⟩
            rw [HVc.out]
            have HOe := Lib.hid (HOd.out.below hbe)
            have Hbe := Lib.hid (Hbd.out.trans (hbe.mono Hbd.out.size))
            have HXe := Lib.hid (HXd.out.past (hbe.mono Hbd.out.size) (Past.of_below hbe) (List.not_mem_nil))
            clear hbe
            go_wp2
            go_roundw
            case rel => exact ⟨i + 1, qn2, bjn, kc, Vn, Vn, by omega, by go_num, rfl, rfl, rfl, HVnl.out, HVnl.out, HOe.out, .inl ⟨HRc.out, by omega, HVc.out⟩, HXe.out, Hbe.out⟩
            case measure => simp [intOf]; omega
          | false =>
            have h2c : (sN.toList == sM.toList) = true := by
              rcases HVm.out with h | h
              · rw [HsN.out, HsV.out, h] at h1c; simp at h1c
              · rw [HsN.out, HsM.out, h]; simp
            go_wp2_with fail
            refine (dnow HOd.out.disk HRc.out.dead HRc.out.img.len HRc.out.un).mono ?_
            rintro e we ⟨rfl, hbe⟩
            rw [HVc.out]
            have HOe := Lib.hid (HOd.out.below hbe)
            have Hbe := Lib.hid (Hbd.out.trans (hbe.mono Hbd.out.size))
            have HXe := Lib.hid (HXd.out.past (hbe.mono Hbd.out.size) (Past.of_below hbe) (List.not_mem_nil))
            clear hbe
            go_wp2
            go_roundw
            case rel => exact ⟨i + 1, qn2, bjn, kc, Vn, Vn, by omega, by go_num, rfl, rfl, rfl, HVnl.out, HVnl.out, HOe.out, .inl ⟨HRc.out, by omega, HVc.out⟩, HXe.out, Hbe.out⟩
            case measure => simp [intOf]; omega
        · have hc8 := (he9.bk BA8.out (by decide)).cell 5
          have HO9 := Lib.hid hO9
          have HF9 := Lib.hid hF9
          have Hb9 := Lib.hid (Hb8.out.trans hb9)
          have HX9 := Lib.hid (HX8.out.past hb9 (Past.of_else he9) (by decide))
          have hth := Hg.out.there
          obtain ⟨d3, hdiv, hd3⟩ : ∃ d3 : Nat, (a.there : Int) / 3 = (d3 : Int) ∧ d3 < 18446744073709551616 := ⟨a.there / 3, by omega, by omega⟩
          clear hO9 hF9 hb9 he9
          go_wp2_with fail
          refine (dcrash HO9.out Hb9.out.size (by have := HF9.out.un; omega) d3 hd3).mono ?_
          rintro e w10 ⟨rfl, hO10, hb10, he10⟩
          obtain ⟨Vs, hVs, qn2, l3, hI3, hq3, hV3⟩ := HF9.out.safe d3
          have HO10 := Lib.hid hO10
          have Hb10 := Lib.hid (Hb9.out.trans hb10)
          have HX10 := Lib.hid (HX9.out.past hb10 (Past.of_else he10) (by decide))
          have HI3 := Lib.hid hI3
          have HV3 := Lib.hid hV3
          have HVs := Lib.hid hVs
          have hq2' : qn2 ≤ i := by have := Hq2.out; omega
          clear hO10 hb10 he10 hI3 hV3 hVs hc8 hq3
          go_wp2_with fail
          refine (oopen (B := w.heap.size) (q := qn2) HO10.out Hb10.out.size l3 HI3.out rfl rfl (by omega)).mono ?_
          rintro e w9 ⟨v9, rfl, hO9⟩
          rcases hO9 with ⟨bjn, kn, rfl, ho9, hR9, hV9, _, _, hb9, he9⟩ | ⟨h, _⟩
          rotate_left
          · cases h
          have HOn := Lib.hid ho9
          have HRn := Lib.hid hR9
          obtain ⟨Vn, hVn⟩ : ∃ Vn, Vn = kn.safe.take 12 := ⟨_, rfl⟩
          have HVn : Hid (kn.safe.take 12 = Vn) := hVn.symm
          have HVnl : Hid (Vn.length = 12) := by unfold Hid; rw [hVn, List.length_take, hR9.img.len]; rfl
          have HVm : Hid (Vn = V ∨ Vn = M) := by unfold Hid; rw [hVn, hV9, HV3.out, HVs.out]; exact HV8.out
          have Hbn := Lib.hid (Hb10.out.trans hb9)
          have HXn := Lib.hid (HX10.out.past hb9 (Past.of_else he9) (by decide))
          obtain ⟨sN, hsN⟩ : ∃ sN, sN = strOf Vn := ⟨_, rfl⟩
          have HsN := Lib.hid hsN
          clear ho9 hR9 hV9 hb9 he9 hVn hsN
          go_wp2_with fail
          refine (ocut HOn.out Hbn.out.size (-1)).mono ?_
          rintro e wc ⟨rfl, hOc, hbc', hec⟩
          have Hkd := Lib.hid (cut_up HRn.out.dead (-1))
          have HRc : Hid (Rest (kn.cutAt (-1)) qn2) := ⟨by rw [Hkd.out.1]; exact HRn.out.img, by rw [Hkd.out.2.1]; exact HRn.out.un, Hkd.out.2.2⟩
          have HVc : Hid ((kn.cutAt (-1)).safe.take 12 = Vn) := by unfold Hid; rw [Hkd.out.1]; exact HVn.out
          have HOc := Lib.hid hOc
          have Hbc := Lib.hid (Hbn.out.trans hbc')
          have HXc := Lib.hid (HXn.out.past hbc' (Past.of_else hec) (by decide))
          clear hOc hbc' hec
          obtain ⟨kc, hkc⟩ : ∃ kc, kc = kn.cutAt (-1) := ⟨_, rfl⟩
          rw [← hkc] at HOc HRc HVc
          clear hkc Hkd
          go_wp2_with fail
          refine (dnow HOc.out.disk HRc.out.dead HRc.out.img.len HRc.out.un).mono ?_
          rintro e wd ⟨rfl, hbd⟩
          rw [HVc.out, ← HsN.out]
          have HOd := Lib.hid (HOc.out.below hbd)
          have Hbd := Lib.hid (Hbc.out.trans (hbd.mono Hbc.out.size))
          have HXd := Lib.hid (HXc.out.past (hbd.mono Hbc.out.size) (Past.of_below hbd) (List.not_mem_nil))
          clear hbd
          cases h1c : (sN.toList == sV.toList) with
          | true =>
            go_wp2_with fail
            refine (dnow HOd.out.disk HRc.out.dead HRc.out.img.len HRc.out.un).mono ?_
            rintro e we ⟨rfl, hbe⟩
            rw [HVc.out]
            have HOe := Lib.hid (HOd.out.below hbe)
            have Hbe := Lib.hid (Hbd.out.trans (hbe.mono Hbd.out.size))
            have HXe := Lib.hid (HXd.out.past (hbe.mono Hbd.out.size) (Past.of_below hbe) (List.not_mem_nil))
            clear hbe
            go_wp2
            go_roundw
            case rel => exact ⟨i + 1, qn2, bjn, kc, Vn, Vn, by omega, by go_num, rfl, rfl, rfl, HVnl.out, HVnl.out, HOe.out, .inl ⟨HRc.out, by omega, HVc.out⟩, HXe.out, Hbe.out⟩
            case measure => simp [intOf]; omega
          | false =>
            have h2c : (sN.toList == sM.toList) = true := by
              rcases HVm.out with h | h
              · rw [HsN.out, HsV.out, h] at h1c; simp at h1c
              · rw [HsN.out, HsM.out, h]; simp
            go_wp2_with fail
            refine (dnow HOd.out.disk HRc.out.dead HRc.out.img.len HRc.out.un).mono ?_
            rintro e we ⟨rfl, hbe⟩
            rw [HVc.out]
            have HOe := Lib.hid (HOd.out.below hbe)
            have Hbe := Lib.hid (Hbd.out.trans (hbe.mono Hbd.out.size))
            have HXe := Lib.hid (HXd.out.past (hbe.mono Hbd.out.size) (Past.of_below hbe) (List.not_mem_nil))
            clear hbe
            go_wp2
            go_roundw
            case rel => exact ⟨i + 1, qn2, bjn, kc, Vn, Vn, by omega, by go_num, rfl, rfl, rfl, HVnl.out, HVnl.out, HOe.out, .inl ⟨HRc.out, by omega, HVc.out⟩, HXe.out, Hbe.out⟩
            case measure => simp [intOf]; omega
      have hk0' : ((a.kind : Int) % 6 == 0) = false := by rw [beq_eq_false_iff_ne]; omega
      have hk1' : ((a.kind : Int) % 6 == 1) = false := by rw [beq_eq_false_iff_ne]; omega
      have hk2' : ((a.kind : Int) % 6 == 2) = false := by rw [beq_eq_false_iff_ne]; omega
      go_wp2
      go_roundw
      case rel => exact ⟨i + 1, q, bj, k, V, M, by omega, by go_num, rfl, by rw [HsV.out], by rw [HsM.out], HVl.out, HMl.out, HOA.out, HS.out.up (by omega), HXA.out, HbW.out⟩
      case measure => simp [intOf]; omega
    · obtain rfl : i = qn + 1 := by omega
      have hlt' : ¬ ((qn : Int) + 1 < (qn : Int) + 1) := by omega
      go_wp2
      go_ret
      exact ⟨rfl, Hb.out⟩

set_option maxRecDepth 100000 in
theorem atomic_contract (H : Type) (enc : TypeId × Value → H) (W : World) (base : Nat) (args : Array Value) (ds gs : List (DataW H)) (before : List MemPlace)
    (hval : ∀ (j : Nat) t v, Try.f4.params[j]? = some t → args[j]? = some v → Value.okWide Try.prog W .any base t v)
    (hW : DataW.Whole enc Try.prog Try.f4.params.toList Rows.journalAtomicSpec.vars false W args.toList ds gs before) :
    Calls Try.prog 4 args W fun e W' => ∃ v, e = .returned v ∧ Rows.journalAtomicSpec.post enc Try.prog Try.f4 false true false false W args v W' := by
  have hW' := hW
  have hlt : ∀ x ∈ before, x.block < W.heap.size := fun x hx => hW.lt x hx
  obtain ⟨p, q, hA0, hV, rfl, _, _⟩ := hW
  have hA : DataW.TrodAll enc Try.prog W 0 (fun _ => true) true Try.f4.params.toList args.toList ds p := hA0
  rw [Try.params4] at hA hval
  obtain ⟨v0, vs0, d0, ds0, p0, q0, hargs, rfl, rfl, h0, r0⟩ := trodAll_cons hA
  obtain ⟨rfl, rfl, rfl⟩ := trodAll_nil r0
  obtain rfl : args = #[v0] := by cases args; simp_all
  obtain ⟨rfl, rfl⟩ := trodVars_none hV
  clear hA0
  obtain ⟨A0, n0, c0, l0, rfl, hn0, hc0, hm0, hr0⟩ := open_actsL (hval 0 34 v0 rfl rfl) h0
  unfold maxLen at hm0
  refine (atomic_walk l0 A0 n0 c0 W hn0 hc0 (by omega) hr0).mono fun e W' ⟨he, hb⟩ => ?_
  subst he
  exact ⟨_, rfl, law_post laid (by kernel_rfl) Try.underlying4 (by rw [Try.params4]; decide +kernel) rfl hW' ⟨rfl, rfl, rfl⟩ hb⟩

set_option maxRecDepth 100000 in
theorem atomic_lifted (os : Os) (started : os.Started) (H : Type) (enc : TypeId × Value → H) :
    ReturnsInHanded {} Try.checked os 4 .any (Rows.journalAtomicSpec.pre6 enc Try.prog Try.f4 Rows.journalAtomicRow.domain false) (Rows.journalAtomicSpec.post enc Try.prog Try.f4 false true false false) := by
  refine returnsInHanded_of_change (C := Try.checked) own started (by kernel_rfl) Try.func4
    (ChangeSpec.witness6 (enc := enc) (C := Try.checked) false ⟨#[], #[.slice none 0 0], []⟩ 8 (by kernel_rfl) (by kernel_rfl) (by kernel_rfl) (by kernel_rfl)) ?_
  intro W base args ds gs before hval hW _ _
  exact atomic_contract H enc W base args ds gs before hval hW

/-- JournalAtomic is true for every input. -/
theorem atomic_holds : Rows.JournalAtomicSaid :=
  OpenClaim.holds_of_wide 4 Try.f4 rfl rfl rfl rfl rfl rfl rfl ⟨rfl, rfl, rfl, rfl, rfl⟩ rfl rfl rfl rfl rfl (by kernel_rfl) Try.func4 (by kernel_rfl)
    (of_decide_eq_true (by kernel_rfl)) (by unfold Func.isWrapper; first | (rw [if_pos (by decide +kernel)]; kernel_rfl) | (rw [if_neg (by decide +kernel)]; exact ⟨rfl, rfl⟩))
    (fun os started H enc _ => atomic_lifted os started H enc)
end Go.Proofs.Ytnkpmmijdkcdjaa
