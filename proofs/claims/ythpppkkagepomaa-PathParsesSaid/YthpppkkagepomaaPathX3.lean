/-
  Parse, as the document answers: a text cut at its slashes.
-/
import Derived.Test.YthpppkkagepomaaPathX2
namespace Go.Proofs.Ythpppkkagepomaa.Path
open Go.RowKit Go.Proofs.Ythpppkkagepomaa.Entry

theorem Got.rd {w w' : World} {L : List (List UInt8)} {A : Option Addr} {c : Nat} (h : Got w L (.slice A L.length c) w') : Rd w' w'.heap.size A (strsV L) := own_rdp h.own
theorem ret_pair {a b : ByteArray} {x y : Int} (h : a = b) (hx : x = y) : Ending.returned (.tuple #[.string a, .int .i64 x]) = .returned (.tuple #[.string b, .int .i64 y]) := by rw [h, hx]
theorem str_data {l : List UInt8} : (⟨l.toArray⟩ : ByteArray).data.toList = l := by simp
set_option maxRecDepth 100000 in
set_option maxHeartbeats 3200000 in
theorem rparse_any (s : ByteArray) (w : World) (hs : s.size ≤ 500000) :
    Calls Try.prog 11 #[.string s] w fun e w' => HandsP w (parseP s.data.toList) e w' := by
  have hsz : s.size = s.data.toList.length := Lib.size_eq s
  have HZ := Lib.hid hsz
  have ir : (s.toList == [47]) = (s.data.toList == [47]) := by rw [ByteArray.toList_eq]
  have HIR := Lib.hid ir
  clear hsz ir
  go_enter Try.func11, Try.ntmps11
  go_wp2
  go_loopw [4, 5, 6] (fun x k i wr => ∃ (j : Nat) (kk : Int) (L : List (List UInt8)), j ≤ s.size ∧ i = .int .i64 (j : Int) ∧ k = .int .i64 kk ∧ Hid (Cut s.data.toList j kk L) ∧ Hid (Got w L x wr)) (fun _ _ i _ => s.size - (intOf i).toNat)
  case atStart => exact ⟨0, -1, [], Nat.zero_le _, rfl, rfl, Lib.hid (Cut.zero _), Lib.hid ⟨World.ownsRow_nil _ _ _ _, Below.refl _ _⟩⟩
  case round =>
    obtain ⟨j, kk, L, hj, rfl, rfl, HC, HG0⟩ := hrel
    obtain ⟨A, c0, rfl⟩ := HG0.out.slice
    by_cases hlt : j < s.size
    · have hlti : (j : Int) < (s.size : Int) := by omega
      obtain ⟨c, hc⟩ : ∃ c : UInt8, s[j]'hlt = c := ⟨_, rfl⟩
      have hcl := Lib.data_getElem? s j hlt
      rw [hc] at hcl
      have u1 := u8_is c 47
      have c1 : ((47 : UInt8).toNat : Int) = 47 := rfl
      rw [c1] at u1
      clear c1
      have hLl := HC.out.1
      rcases HC.out.2 with ⟨hk, -, -⟩ | ⟨f, -, -, hk, -⟩
      · subst hk
        cases b1 : (c == 47)
        · have hne : c ≠ 47 := by intro h; rw [h] at b1; cases b1
          have HC2 := Lib.hid (HC.out.none hcl hne)
          rw [b1] at u1
          clear hcl hne b1
          go_wp2
          go_roundw
          case rel => exact ⟨j + 1, -1, L, by omega, by go_num, rfl, HC2, HG0⟩
          case measure => simp [intOf]; omega
        · have hc47 : c = 47 := by simpa using b1
          rw [hc47] at hcl
          have HC2 := Lib.hid (HC.out.first hcl)
          rw [b1] at u1
          clear hcl hc47 b1
          go_wp2
          go_roundw
          case rel => exact ⟨j + 1, ((j + 1 : Nat) : Int), L, by omega, by go_num, by go_num, HC2, HG0⟩
          case measure => simp [intOf]; omega
      · subst hk
        obtain ⟨hf0, hfj⟩ := HC.out.le
        cases b1 : (c == 47)
        · have hne : c ≠ 47 := by intro h; rw [h] at b1; cases b1
          have HC2 := Lib.hid (HC.out.char hcl hne)
          rw [b1] at u1
          clear hcl hne b1
          go_wp2
          go_roundw
          case rel => exact ⟨j + 1, (f : Int), L, by omega, by go_num, rfl, HC2, HG0⟩
          case measure => simp [intOf]; omega
        · have hc47 : c = 47 := by simpa using b1
          rw [hc47] at hcl
          have HC2 := Lib.hid (HC.out.slash hcl)
          rw [b1] at u1
          clear hcl hc47 b1
          have hnx := part_data s f j
          generalize hX : s.extract f j = X at *
          have HX := Lib.hid hnx
          clear hnx
          go_wp2_with (at_builtin; refine wpList_app9 _ rfl (.tmp 23) (.tmp 28) rfl w.heap.size _ L.length L rfl (HG0.out.own.alloc _) _ _ 1 1 [X.data.toList] rfl rfl (rd_one _ X 9) (by omega) (by simp; have := HG0.out.below.size; omega) ?_)
          intro v3 w3 hown3 hg3
          have hG3 := HG0.out.add hown3 hg3
          rw [HX.out] at hG3
          have HG3 := Lib.hid hG3
          clear hown3 hg3 hG3
          go_wp2
          go_roundw
          case rel => exact ⟨j + 1, ((j + 1 : Nat) : Int), _, by omega, by go_num, by go_num, HC2, HG3⟩
          case measure => simp [intOf]; omega
    · obtain rfl : j = s.size := by omega
      have hC := HC.out
      rw [HZ.out] at hC
      have HCE := Lib.hid hC
      have hLl := HC.out.1
      rcases HC.out.2 with ⟨hk, -, -⟩ | ⟨f, -, -, hk, -⟩
      · subst hk
        obtain ⟨hfin, -⟩ := HCE.out.fin_none
        have HF := Lib.hid hfin
        have HLL : Hid (L.length ≤ 500000) := Lib.hid (by omega)
        have HG := HG0
        generalize L = lf at *
        generalize A = A1 at *
        generalize c0 = c1 at *
        clear HC HCE HG0 hC hLl hfin
        have HJ := Lib.hid (fun (u : World) (h : Rd u u.heap.size A1 (strsV lf)) => rjoin_any lf A1 lf.length c1 u rfl h (by have := HLL.out; omega))
        by_cases hok : Okp lf
        · have hje := join_yes hok
          rw [hje] at HJ
          obtain ⟨T, hT⟩ : ∃ T : ByteArray, (⟨(pathB lf).toArray⟩ : ByteArray) = T := ⟨_, rfl⟩
          have HTD : Hid (T.data.toList = pathB lf) := Lib.hid (by rw [← hT])
          have HJT : Hid (∀ (u : World), Rd u u.heap.size A1 (strsV lf) → Calls Try.prog 18 #[.slice A1 lf.length c1] u fun e w' => e = .returned (.tuple #[.string T, .int .i64 0]) ∧ Below u.heap.size u w') := Lib.hid (fun u h => by
            have := HJ.out u h
            unfold HandsJ at this
            simp only at this
            rwa [hT] at this)
          have iT : (T.toList == s.toList) = (pathB lf == s.data.toList) := by rw [ByteArray.toList_eq, ByteArray.toList_eq, HTD.out]
          clear hT hje HJ
          cases hcmp : (pathB lf == s.data.toList)
          · have HN := Lib.hid (HF.out.no (fun h => by rw [h.2] at hcmp; simp at hcmp))
            rw [hcmp] at iT
            clear hok hcmp
            go_wp2_with (go_at_call 18; (with_reducible refine (HJT.out _ HG.out.rd).mono ?_); rintro e w5 ⟨he, hb5⟩; obtain rfl := he; have HG5 := Lib.hid (HG.out.on hb5); clear hb5)
            go_ret2
            exact hands_none HN.out HG5.out.below
          · have HY : Hid (parP s.data.toList = some lf) := Lib.hid (parP_iff.2 ⟨hok, by simpa using hcmp⟩)
            rw [hcmp] at iT
            clear hok hcmp
            go_wp2_with (go_at_call 18; (with_reducible refine (HJT.out _ HG.out.rd).mono ?_); rintro e w5 ⟨he, hb5⟩; obtain rfl := he; have HG5 := Lib.hid (HG.out.on hb5); clear hb5)
            go_ret2
            exact hands_some HY.out HG5.out.own HG5.out.below
        · have HN := Lib.hid (HF.out.no (fun h => hok h.1))
          rw [join_no hok] at HJ
          have HJT : Hid (∀ (u : World), Rd u u.heap.size A1 (strsV lf) → Calls Try.prog 18 #[.slice A1 lf.length c1] u fun e w' => e = .returned (.tuple #[.string ⟨#[]⟩, .int .i64 130]) ∧ Below u.heap.size u w') := Lib.hid (fun u h => HJ.out u h)
          clear hok HJ
          go_wp2_with (go_at_call 18; (with_reducible refine (HJT.out _ HG.out.rd).mono ?_); rintro e w5 ⟨he, hb5⟩; obtain rfl := he; have HG5 := Lib.hid (HG.out.on hb5); clear hb5)
          go_ret2
          exact hands_none HN.out HG5.out.below
      · subst hk
        obtain ⟨hf0, hfj⟩ := HCE.out.le
        have hfs : f ≤ s.size := by have := HZ.out; omega
        cases hir : (s.data.toList == [47])
        · have hS : s.data.toList ≠ [47] := by intro h; rw [h] at hir; cases hir
          have hfin := HCE.out.fin hS
          have ir := HIR.out
          rw [hir] at ir
          have hnx := part_data s f s.size
          have e1 : (s.data.toList.drop f).take (s.size - f) = s.data.toList.drop f := List.take_of_length_le (by rw [List.length_drop]; have := HZ.out; omega)
          rw [e1] at hnx
          generalize hX : s.extract f s.size = X at *
          have HX := Lib.hid hnx
          clear hnx e1
          have HFI := Lib.hid hfin
          clear hS hir hfin
          go_wp2_with (at_builtin; refine wpList_app9 _ rfl (.tmp 42) (.tmp 46) rfl w.heap.size _ L.length L rfl (HG0.out.own.alloc _) _ _ 1 1 [X.data.toList] rfl rfl (rd_one _ X 9) (by omega) (by simp; have := HG0.out.below.size; omega) ?_)
          intro v3 w3 hown3 hg3
          have hG3 := HG0.out.add hown3 hg3
          rw [HX.out] at hG3
          obtain ⟨lf, hlf⟩ : ∃ lf, L ++ [s.data.toList.drop f] = lf := ⟨_, rfl⟩
          rw [hlf] at hG3 HFI
          have HF := HFI
          have HLL : Hid (lf.length ≤ 500001) := Lib.hid (by rw [← hlf, List.length_append, List.length_singleton]; omega)
          obtain ⟨A1, c1, rfl⟩ := hG3.slice
          have HG := Lib.hid hG3
          clear hown3 hg3 hG3 hlf HX HFI HC HCE HG0 hC hLl
          have HJ := Lib.hid (fun (u : World) (h : Rd u u.heap.size A1 (strsV lf)) => rjoin_any lf A1 lf.length c1 u rfl h (by have := HLL.out; omega))
          by_cases hok : Okp lf
          · have hje := join_yes hok
            rw [hje] at HJ
            obtain ⟨T, hT⟩ : ∃ T : ByteArray, (⟨(pathB lf).toArray⟩ : ByteArray) = T := ⟨_, rfl⟩
            have HTD : Hid (T.data.toList = pathB lf) := Lib.hid (by rw [← hT])
            have HJT : Hid (∀ (u : World), Rd u u.heap.size A1 (strsV lf) → Calls Try.prog 18 #[.slice A1 lf.length c1] u fun e w' => e = .returned (.tuple #[.string T, .int .i64 0]) ∧ Below u.heap.size u w') := Lib.hid (fun u h => by
              have := HJ.out u h
              unfold HandsJ at this
              simp only at this
              rwa [hT] at this)
            have iT : (T.toList == s.toList) = (pathB lf == s.data.toList) := by rw [ByteArray.toList_eq, ByteArray.toList_eq, HTD.out]
            clear hT hje HJ
            cases hcmp : (pathB lf == s.data.toList)
            · have HN := Lib.hid (HF.out.no (fun h => by rw [h.2] at hcmp; simp at hcmp))
              rw [hcmp] at iT
              clear hok hcmp
              go_wp2_with (go_at_call 18; (with_reducible refine (HJT.out _ HG.out.rd).mono ?_); rintro e w5 ⟨he, hb5⟩; obtain rfl := he; have HG5 := Lib.hid (HG.out.on hb5); clear hb5)
              go_ret2
              exact hands_none HN.out HG5.out.below
            · have HY : Hid (parP s.data.toList = some lf) := Lib.hid (parP_iff.2 ⟨hok, by simpa using hcmp⟩)
              rw [hcmp] at iT
              clear hok hcmp
              go_wp2_with (go_at_call 18; (with_reducible refine (HJT.out _ HG.out.rd).mono ?_); rintro e w5 ⟨he, hb5⟩; obtain rfl := he; have HG5 := Lib.hid (HG.out.on hb5); clear hb5)
              go_ret2
              exact hands_some HY.out HG5.out.own HG5.out.below
          · have HN := Lib.hid (HF.out.no (fun h => hok h.1))
            rw [join_no hok] at HJ
            have HJT : Hid (∀ (u : World), Rd u u.heap.size A1 (strsV lf) → Calls Try.prog 18 #[.slice A1 lf.length c1] u fun e w' => e = .returned (.tuple #[.string ⟨#[]⟩, .int .i64 130]) ∧ Below u.heap.size u w') := Lib.hid (fun u h => HJ.out u h)
            clear hok HJ
            go_wp2_with (go_at_call 18; (with_reducible refine (HJT.out _ HG.out.rd).mono ?_); rintro e w5 ⟨he, hb5⟩; obtain rfl := he; have HG5 := Lib.hid (HG.out.on hb5); clear hb5)
            go_ret2
            exact hands_none HN.out HG5.out.below
        · have hS : s.data.toList = [47] := by simpa using hir
          obtain ⟨hfin, -⟩ := HCE.out.fin_root hS
          have ir := HIR.out
          rw [hir] at ir
          have HF := Lib.hid hfin
          have HLL : Hid (L.length ≤ 500000) := Lib.hid (by omega)
          have HG := HG0
          generalize L = lf at *
          generalize A = A1 at *
          generalize c0 = c1 at *
          clear HC HCE HG0 hC hLl hfin hS hir
          have HJ := Lib.hid (fun (u : World) (h : Rd u u.heap.size A1 (strsV lf)) => rjoin_any lf A1 lf.length c1 u rfl h (by have := HLL.out; omega))
          by_cases hok : Okp lf
          · have hje := join_yes hok
            rw [hje] at HJ
            obtain ⟨T, hT⟩ : ∃ T : ByteArray, (⟨(pathB lf).toArray⟩ : ByteArray) = T := ⟨_, rfl⟩
            have HTD : Hid (T.data.toList = pathB lf) := Lib.hid (by rw [← hT])
            have HJT : Hid (∀ (u : World), Rd u u.heap.size A1 (strsV lf) → Calls Try.prog 18 #[.slice A1 lf.length c1] u fun e w' => e = .returned (.tuple #[.string T, .int .i64 0]) ∧ Below u.heap.size u w') := Lib.hid (fun u h => by
              have := HJ.out u h
              unfold HandsJ at this
              simp only at this
              rwa [hT] at this)
            have iT : (T.toList == s.toList) = (pathB lf == s.data.toList) := by rw [ByteArray.toList_eq, ByteArray.toList_eq, HTD.out]
            clear hT hje HJ
            cases hcmp : (pathB lf == s.data.toList)
            · have HN := Lib.hid (HF.out.no (fun h => by rw [h.2] at hcmp; simp at hcmp))
              rw [hcmp] at iT
              clear hok hcmp
              go_wp2_with (go_at_call 18; (with_reducible refine (HJT.out _ HG.out.rd).mono ?_); rintro e w5 ⟨he, hb5⟩; obtain rfl := he; have HG5 := Lib.hid (HG.out.on hb5); clear hb5)
              go_ret2
              exact hands_none HN.out HG5.out.below
            · have HY : Hid (parP s.data.toList = some lf) := Lib.hid (parP_iff.2 ⟨hok, by simpa using hcmp⟩)
              rw [hcmp] at iT
              clear hok hcmp
              go_wp2_with (go_at_call 18; (with_reducible refine (HJT.out _ HG.out.rd).mono ?_); rintro e w5 ⟨he, hb5⟩; obtain rfl := he; have HG5 := Lib.hid (HG.out.on hb5); clear hb5)
              go_ret2
              exact hands_some HY.out HG5.out.own HG5.out.below
          · have HN := Lib.hid (HF.out.no (fun h => hok h.1))
            rw [join_no hok] at HJ
            have HJT : Hid (∀ (u : World), Rd u u.heap.size A1 (strsV lf) → Calls Try.prog 18 #[.slice A1 lf.length c1] u fun e w' => e = .returned (.tuple #[.string ⟨#[]⟩, .int .i64 130]) ∧ Below u.heap.size u w') := Lib.hid (fun u h => HJ.out u h)
            clear hok HJ
            go_wp2_with (go_at_call 18; (with_reducible refine (HJT.out _ HG.out.rd).mono ?_); rintro e w5 ⟨he, hb5⟩; obtain rfl := he; have HG5 := Lib.hid (HG.out.on hb5); clear hb5)
            go_ret2
            exact hands_none HN.out HG5.out.below
end Go.Proofs.Ythpppkkagepomaa.Path
