/-
  A directory with an entry less: the document's Remove.
-/
import Derived.Test.YtlopndnjkphdnaaEntryX14
namespace Go.Proofs.Ytlopndnjkphdnaa.Entry
open Go.RowKit

theorem clr_append (l m : List Slot) (n : List UInt8) : clr (l ++ m) n = clr l n ++ clr m n := by simp [clr]
theorem clr_one {t : Slot} {n : List UInt8} : clr [t] n = [if isN n t = true then none else t] := by
  cases t with
  | none => rfl
  | some x =>
    show [if x.n = n then none else some x] = _
    by_cases h : x.n = n
    · rw [if_pos h, if_pos (by simpa [isN] using h)]
    · rw [if_neg h, if_neg (by simpa [isN] using h)]
/-- The first places are cleared. -/
def clrT (S : List Slot) (n : List UInt8) (i : Nat) : List Slot := clr (S.take i) n ++ S.drop i
theorem clrT_zero (S : List Slot) (n : List UInt8) : clrT S n 0 = S := by simp [clrT, clr]
theorem clrT_all (S : List Slot) (n : List UInt8) : clrT S n S.length = clr S n := by simp [clrT]
theorem length_clrT (S : List Slot) (n : List UInt8) (i : Nat) : (clrT S n i).length = S.length := by
  unfold clrT
  rw [List.length_append, length_clr, ← List.length_append, List.take_append_drop]
section
variable {S : List Slot} {n : List UInt8} {i : Nat} {t : Slot}
theorem clrT_len (hi : i < S.length) : (clr (S.take i) n).length = i := by rw [length_clr, List.length_take]; omega
theorem clrT_get (ht : S[i]? = some t) : (clrT S n i)[i]? = some t := by
  have hi := (List.getElem?_eq_some_iff.1 ht).1
  unfold clrT
  rw [List.getElem?_append_right (by rw [clrT_len hi]; omega), clrT_len hi, Nat.sub_self, List.getElem?_drop, Nat.add_zero, ht]
theorem clrT_succ (ht : S[i]? = some t) : clrT S n (i + 1) = (clrT S n i).set i (if isN n t = true then none else t) := by
  obtain ⟨hi, he⟩ := List.getElem?_eq_some_iff.1 ht
  unfold clrT
  rw [List.take_succ_eq_append_getElem hi, he, clr_append, clr_one, List.set_append_right _ _ (by rw [clrT_len hi]; omega), clrT_len hi, Nat.sub_self, List.drop_eq_getElem_cons hi, List.set_cons_zero, List.append_assoc]
  rfl
theorem clrT_yes (ht : S[i]? = some t) (hn : isN n t = true) : clrT S n (i + 1) = (clrT S n i).set i none := by rw [clrT_succ ht, if_pos hn]
theorem clrT_no (ht : S[i]? = some t) (hn : isN n t = false) : clrT S n (i + 1) = clrT S n i := by
  rw [clrT_succ ht, if_neg (by rw [hn]; decide)]
  obtain ⟨hi, he⟩ := List.getElem?_eq_some_iff.1 (clrT_get (n := n) ht)
  conv => lhs; rw [← he]
  exact List.set_getElem_self hi
theorem any_take (ht : S[i]? = some t) : (S.take (i + 1)).any (isN n) = ((S.take i).any (isN n) || isN n t) := by
  obtain ⟨hi, rfl⟩ := List.getElem?_eq_some_iff.1 ht
  rw [List.take_succ_eq_append_getElem hi, List.any_append]
  simp
theorem any_idx : S.any (isN n) = true ↔ idxOf S n < S.length := by
  unfold idxOf
  rw [List.findIdx_lt_length, List.any_eq_true]
theorem soks_clr (h : SOks S) : SOks (clr S n) := fun s hs y hy => by
  subst hy
  exact h _ (mem_clr.1 hs).1 y rfl
end
theorem remE_found {b n : List UInt8} {S : List Slot} (h : dirP hsh b = some S) (hf : S.any (isN n) = true) : remE hsh b n = (dirB hsh (cutEnd (clr S n)), 0) := by
  obtain ⟨hd, _⟩ := dirP_iff.1 h
  obtain ⟨x, _, _, hfx⟩ := idx_fnd_some hd.once (any_idx.1 hf)
  unfold remE
  rw [h]
  simp only [hfx]
  rw [if_pos (show (some x.i).isSome = true from rfl)]
  rfl
theorem soks_nil : SOks [] := fun s hs => by simp at hs
theorem bytes_none (A : Option Addr) (c : Nat) (w : World) : Calls Try.prog 42 #[.slice A 0 c] w fun e w' => ∃ v, e = .returned v ∧ w'.ownsRow w.heap.size 5 1 v (dirB hsh []).length (bytesV (dirB hsh [])) ∧ Below w.heap.size w w' := rbytes_any [] soks_nil A 0 c w rfl (.inl rfl) (by simp)
def lenV : Value → Nat
  | .slice _ n _ => n
  | _ => 0
theorem slot_lies {w : World} {B g : Nat} {S : List Slot} (h : Rd w B (some ⟨g, 0, none⟩) (rowsG slotC S)) {i : Nat} {t : Slot} (ht : S[i]? = some t) : w.cell? ⟨g, i * 3 + 2, none⟩ = some (.bool t.isSome) := by
  have hrow : slotC t = [.string ⟨(nmS t).toArray⟩, .int .i64 ((inS t : Nat) : Int), .bool t.isSome] := by cases t <;> rfl
  have d2 := rd_slot h ht (j := 2) (v := .bool t.isSome) (by rw [hrow]; rfl)
  rw [Nat.zero_add] at d2
  exact d2

set_option maxHeartbeats 3200000 in
set_option maxRecDepth 100000 in
theorem rremove_any (l : List UInt8) (A : Option Addr) (n c : Nat) (s : ByteArray) (w : World) (hn : l.length = n) (hr : Rd w w.heap.size A (bytesV l)) (hc : n ≤ c) (hm : c ≤ maxLen) :
    Calls Try.prog 26 #[.slice A n c, .string s] w fun e w' => Hands w (remE hsh l s.data.toList) e w' := by
  have HAL := Lib.hid (rslots_any l A n c w hn hr hc hm)
  obtain ⟨R, hR⟩ : ∃ R, R = remE hsh l s.data.toList := ⟨_, rfl⟩
  rw [← hR]
  cases hP : dirP hsh l with
  | none =>
    rw [hP] at HAL
    have HZ := Lib.hid (hR.trans (remE_dir hP))
    clear hn hr hP hc hm hR
    go_enter Try.func26, Try.ntmps26
    go_wp2_with (go_at_call 39; (with_reducible refine HAL.out.mono ?_); rintro e w1 ⟨v, he, hown, hb⟩; obtain rfl := he; have HB1 := Lib.hid hb; clear hown hb; simp only [Option.isSome])
    go_ret2
    exact hands_nil HZ.out HB1.out
  | some S =>
    rw [hP] at HAL
    obtain ⟨hd, hde⟩ := dirP_iff.1 hP
    have hls := length_dirP hP
    have HY := Lib.hid (fun hf => hR.trans (remE_found (n := s.data.toList) hP hf))
    have HN := Lib.hid (fun hf => hR.trans (remE_none (n := s.data.toList) hP hf))
    have HSO := Lib.hid (soks_clr (n := s.data.toList) hd.ok)
    have hN240 : S.length ≤ 240 := hls.2
    clear hn hr hP hc hm hR hd hde hls
    generalize hsn : s.data.toList = sn at *
    have hsl : ∀ y : List UInt8, (y == s.toList) = (y == sn) := fun y => by rw [ByteArray.toList_eq, hsn]
    clear hsn
    go_enter Try.func26, Try.ntmps26
    go_wp2_with (go_at_call 39; (with_reducible refine HAL.out.mono ?_); rintro e w1 ⟨v, he, hown, hb⟩; obtain rfl := he; simp only [Option.isSome, Option.getD] at hown ⊢; have HO1 := Lib.hid hown; have HB1 := Lib.hid hb; clear hown hb)
    obtain ⟨A1, c1, hv1, hc1, hm1, -⟩ := own_rdk (by omega) HO1.out
    subst hv1
    by_cases hS0 : 0 < S.length
    · obtain ⟨g, c2, hv2, -⟩ := own_pos HO1.out hS0
      injection hv2 with hv2 _ hv3
      subst hv2 hv3
      go_loopw [8, 9] (fun f k wr => ∃ i : Nat, f = .bool ((S.take i).any (isN sn)) ∧ k = .int .i64 (i : Int) ∧ i ≤ S.length ∧ wr.ownsRow w.heap.size 69 3 (.slice (some ⟨g, 0, none⟩) S.length c1) S.length (rowsG slotC (clrT S sn i)) ∧ Below w.heap.size w wr) (fun _ k _ => S.length - (intOf k).toNat)
      case atStart => exact ⟨0, rfl, rfl, Nat.zero_le _, by rw [clrT_zero]; exact HO1.out, HB1.out⟩
      case round =>
        obtain ⟨i, rfl, rfl, hi, hown, hbel⟩ := hrel
        have HO := Lib.hid hown
        have HB := Lib.hid hbel
        clear hown hbel
        by_cases hlt : i < S.length
        · have hlti : (i : Int) < (S.length : Int) := by omega
          have hi0 : (0 : Int) ≤ (i : Int) := by omega
          have hiw : IntKind.i64.wrap ((i : Int) + 1) = ((i + 1 : Nat) : Int) := by rw [IntKind.wrap_i64]; omega
          obtain ⟨t, ht⟩ : ∃ t, S[i]? = some t := ⟨_, List.getElem?_eq_getElem hlt⟩
          have HT := Lib.hid ht
          obtain ⟨⟨d0, d1, d2⟩, f0, f1, f2⟩ := slot_own HO.out (clrT_get (n := sn) ht)
          have HAT := Lib.hid (any_take (n := sn) ht)
          cases hN : isN sn t
          · have HO2 := Lib.hid (show wr.ownsRow w.heap.size 69 3 (.slice (some ⟨g, 0, none⟩) S.length c1) S.length (rowsG slotC (clrT S sn (i + 1))) by rw [clrT_no ht hN]; exact HO.out)
            rw [hN, Bool.or_false] at HAT
            have HAT2 := Lib.hid HAT.out.symm
            clear ht HT d1
            generalize (S.take i).any (isN sn) = fd at *
            cases t with
            | none =>
              simp only [Option.isSome] at d2
              clear d0
              go_wp2
              go_roundw
              case rel => exact ⟨i + 1, by rw [HAT.out], by first | rfl | (congr 1), hlt, HO2.out, HB.out⟩
              case measure => simp [intOf]; omega
            | some x =>
              simp only [Option.isSome, nmS] at d2 d0
              have hxn : (x.n == sn) = false := hN
              rw [← hsl] at hxn; clear hsl
              go_wp2
              go_roundw
              case rel => exact ⟨i + 1, by rw [HAT.out], by first | rfl | (congr 1), hlt, HO2.out, HB.out⟩
              case measure => simp [intOf]; omega
          · rw [hN, Bool.or_true] at HAT
            have HCY := Lib.hid (clrT_yes ht hN)
            cases t with
            | none => cases hN
            | some x =>
              simp only [Option.isSome, nmS] at d2 d0
              have hxn : (x.n == sn) = true := hN
              rw [← hsl] at hxn; clear hsl
              obtain ⟨hst, hsb⟩ := slot_put HO.out HB.out (by rw [length_clrT]; exact hlt) none _ _ _ rfl
              rw [← HCY.out] at hst
              have HO2 := Lib.hid hst
              have HB2 := Lib.hid hsb
              clear ht hst hsb
              go_wp2
              go_roundw
              case rel => exact ⟨i + 1, by rw [HAT.out], by first | rfl | (congr 1), hlt, HO2.out, HB2.out⟩
              case measure => simp [intOf]; omega
        · obtain rfl : i = S.length := by omega
          rw [List.take_length, clrT_all] at *
          cases hany : S.any (isN sn)
          · have HZ := Lib.hid (HN.out (fun h => by rw [any_idx.2 h] at hany; cases hany))
            go_wp2
            go_ret2
            exact hands_nil HZ.out HB.out
          · have HZ := Lib.hid (HY.out hany)
            have HLT := Lib.hid (length_clr S sn)
            generalize clr S sn = T at *
            have HRT := Lib.hid (own_rdkp (by omega) HO.out)
            go_wp2
            go_loopw [6] (fun v wr2 => ∃ m : Nat, v = .slice (some ⟨g, 0, none⟩) m c1 ∧ m ≤ S.length ∧ cutEnd (T.take m) = cutEnd T ∧ wr2 = wr) (fun v _ => lenV v)
            case atStart => exact ⟨S.length, rfl, Nat.le_refl _, by rw [← HLT.out, List.take_length], rfl⟩
            case round =>
              obtain ⟨m, rfl, hm, hcut, rfl⟩ := hrel
              have HC := Lib.hid hcut
              clear hcut
              rcases Nat.eq_zero_or_pos m with rfl | hm0
              · have HE := Lib.hid (show cutEnd T = [] by rw [← HC.out]; rfl)
                go_wp2_with (go_at_call 42; (with_reducible refine (bytes_none _ _ _).mono ?_); rintro e w8 ⟨v8, he, hown8, hb8⟩; obtain rfl := he)
                go_ret2
                exact hands_bytes (by rw [HZ.out, HE.out]) hown8 HB.out.size (HB.out.trans (hb8.mono HB.out.size))
              · obtain ⟨k, hk⟩ : ∃ k, m = k + 1 := ⟨m - 1, by omega⟩
                have hkT : k < T.length := by rw [HLT.out]; omega
                obtain ⟨t, ht⟩ : ∃ t, T[k]? = some t := ⟨_, List.getElem?_eq_getElem hkT⟩
                have d2 := slot_lies HRT.out ht
                have hm0i : (0 : Int) < (m : Int) := by omega
                have hmw : IntKind.i64.wrap ((m : Int) - 1) = (k : Int) := by rw [IntKind.wrap_i64]; omega
                have hki : (0 : Int) ≤ (k : Int) := by omega
                have hkm : (k : Int) < (m : Int) := by omega
                have hkc : (k : Int) ≤ (c1 : Int) := by omega
                have HK := Lib.hid hk
                cases t with
                | none =>
                  have HC2 := Lib.hid (show cutEnd (T.take k) = cutEnd T by rw [← cut_take_none ht, ← hk]; exact HC.out)
                  simp only [Option.isSome] at d2
                  clear ht hk
                  go_wp2
                  go_roundw
                  case rel => exact ⟨k, by first | rfl | (congr 1), by have := HK.out; omega, HC2.out, trivial⟩
                  case measure => have := HK.out; simp [lenV]; omega
                | some x =>
                  have HE := Lib.hid (show cutEnd T = T.take m by rw [← HC.out, hk, cut_take_some ht])
                  simp only [Option.isSome] at d2
                  clear ht hk
                  go_wp2_with (go_at_call 42; (with_reducible refine (rbytes_any (T.take m) (soks_take HSO.out _) _ m _ _ (by rw [List.length_take, HLT.out]; omega) (by rw [rowsG_take slotC_len]; exact HRT.out.take _) (by rw [List.length_take]; omega)).mono ?_); rintro e w8 ⟨v8, he, hown8, hb8⟩; obtain rfl := he)
                  go_ret2
                  exact hands_bytes (by rw [HZ.out, HE.out]) hown8 HB.out.size (HB.out.trans (hb8.mono HB.out.size))
    · obtain rfl : S = [] := List.eq_nil_of_length_eq_zero (by omega)
      have HZ := Lib.hid (HN.out (by simp))
      go_loopw [8, 9] (fun f k wr => f = .bool false ∧ k = .int .i64 0 ∧ wr = w1) (fun _ _ _ => 0)
      case atStart => exact ⟨rfl, rfl, rfl⟩
      case round =>
        obtain ⟨rfl, rfl, rfl⟩ := hrel
        go_wp2
        go_ret2
        exact hands_nil HZ.out HB1.out
end Go.Proofs.Ytlopndnjkphdnaa.Entry
