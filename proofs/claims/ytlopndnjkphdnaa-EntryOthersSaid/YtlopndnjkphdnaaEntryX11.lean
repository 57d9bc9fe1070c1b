/-
  What Add and Remove are made of: a clone, the first free place, no free places at the end, bytes laid over others, and cleared.
-/
import Derived.Test.YtlopndnjkphdnaaEntryX10
import Derived.Lib.SliceRun
import Derived.Laws.CopyRow
namespace Go.Proofs.Ytlopndnjkphdnaa.Entry
open Go.RowKit

/-! On paper. -/
def freeIdx (S : List Slot) : Nat := S.findIdx (·.isNone)
theorem free_le (S : List Slot) : freeIdx S ≤ S.length := List.findIdx_le_length
theorem free_step {S : List Slot} {j : Nat} {x : Ent} (h : j ≤ freeIdx S) (ht : S[j]? = some (some x)) : j + 1 ≤ freeIdx S := by
  rcases Nat.lt_or_ge j (freeIdx S) with hlt | hge
  · exact hlt
  · have e : freeIdx S = j := by omega
    obtain ⟨hj, hjt⟩ := List.getElem?_eq_some_iff.1 ht
    have := List.findIdx_getElem (xs := S) (p := fun s : Slot => s.isNone) (w := by unfold freeIdx at e; omega)
    unfold freeIdx at e
    simp only [e, hjt] at this
    cases this
theorem free_hit {S : List Slot} {j : Nat} (h : j ≤ freeIdx S) (ht : S[j]? = some none) : freeIdx S = j := by
  obtain ⟨hj, hjt⟩ := List.getElem?_eq_some_iff.1 ht
  rcases Nat.lt_or_ge j (freeIdx S) with hlt | hge
  · have := List.not_of_lt_findIdx (p := fun s : Slot => s.isNone) hlt
    rw [hjt] at this
    cases this
  · omega
theorem free_mem {S : List Slot} : freeIdx S < S.length ↔ none ∈ S := by
  unfold freeIdx
  rw [List.findIdx_lt_length]
  constructor
  · rintro ⟨s, hs, hn⟩
    cases s with
    | none => exact hs
    | some x => cases hn
  · intro h
    exact ⟨none, h, rfl⟩
theorem put_set {S : List Slot} (x : Ent) (h : freeIdx S < S.length) : put S x = S.set (freeIdx S) (some x) := by
  induction S with
  | nil => simp at h
  | cons s S ih =>
    cases s with
    | none =>
      have e : freeIdx (none :: S) = 0 := by simp [freeIdx, List.findIdx_cons]
      rw [e]
      rfl
    | some y =>
      have e : freeIdx (some y :: S) = freeIdx S + 1 := by simp [freeIdx, List.findIdx_cons]
      rw [e] at h ⊢
      rw [List.set_cons_succ, ← ih (by simpa using h)]
      rfl
theorem clr_set {S : List Slot} {n : List UInt8} (hS : (names S).Nodup) (h : idxOf S n < S.length) : clr S n = S.set (idxOf S n) none := by
  induction S with
  | nil => simp at h
  | cons s S ih =>
    cases s with
    | none =>
      have e : idxOf (none :: S) n = idxOf S n + 1 := by simp [idxOf, List.findIdx_cons, isN]
      rw [e] at h ⊢
      rw [List.set_cons_succ, ← ih hS (by simpa using h)]
      rfl
    | some y =>
      have hS' : ((y :: ents S).map (·.n)).Nodup := hS
      rw [List.map_cons, List.nodup_cons] at hS'
      by_cases hy : y.n = n
      · have e : idxOf (some y :: S) n = 0 := by simp [idxOf, List.findIdx_cons, isN, hy]
        rw [e]
        show (if y.n = n then none else some y) :: clr S n = none :: S
        rw [if_pos hy, clr_id (by rw [← hy]; exact hS'.1)]
      · have e : idxOf (some y :: S) n = idxOf S n + 1 := by
          have : (y.n == n) = false := by simpa using hy
          simp [idxOf, List.findIdx_cons, isN, this]
        rw [e] at h ⊢
        rw [List.set_cons_succ, ← ih hS'.2 (by simpa using h)]
        show (if y.n = n then none else some y) :: clr S n = _
        rw [if_neg hy]
theorem dirB_set {S : List Slot} (hS : SOks S) {j : Nat} {t : Slot} (ht : SOk t) (hj : j < S.length) : dirB hsh (S.set j t) = splice (dirB hsh S) (j * 16) (slotB hsh t) := by
  induction S generalizing j with
  | nil => simp at hj
  | cons s S ih =>
    have hs := length_slotB (H := hsh) (hS s (by simp))
    have htl := length_slotB (H := hsh) ht
    cases j with
    | zero =>
      show slotB hsh t ++ dirB hsh S = splice (slotB hsh s ++ dirB hsh S) (0 * 16) (slotB hsh t)
      unfold splice
      rw [Nat.zero_mul, List.take_zero, List.nil_append, Nat.zero_add, htl, ← hs, List.drop_left]
    | succ j =>
      show slotB hsh s ++ dirB hsh (S.set j t) = splice (slotB hsh s ++ dirB hsh S) ((j + 1) * 16) (slotB hsh t)
      rw [ih (fun u hu => hS u (by simp [hu])) (by simpa using hj)]
      unfold splice
      rw [show (j + 1) * 16 = (slotB hsh s).length + j * 16 by omega, List.take_length_add_append, show (slotB hsh s).length + j * 16 + (slotB hsh t).length = (slotB hsh s).length + (j * 16 + (slotB hsh t).length) by omega, List.drop_length_add_append]
      simp [List.append_assoc]
theorem cut_take_none {S : List Slot} {j : Nat} (ht : S[j]? = some none) : cutEnd (S.take (j + 1)) = cutEnd (S.take j) := by
  obtain ⟨hj, hjt⟩ := List.getElem?_eq_some_iff.1 ht
  rw [List.take_succ_eq_append_getElem hj, hjt, cutEnd_append_none]
theorem cut_take_some {S : List Slot} {j : Nat} {x : Ent} (ht : S[j]? = some (some x)) : cutEnd (S.take (j + 1)) = S.take (j + 1) := by
  obtain ⟨hj, hjt⟩ := List.getElem?_eq_some_iff.1 ht
  rw [List.take_succ_eq_append_getElem hj, hjt, cutEnd_append_some]

/-! In memory. -/
theorem clone_any (l : List UInt8) (A : Option Addr) (n c : Nat) (w : World) (hn : l.length = n) (hr : Rd w w.heap.size A (bytesV l)) (hm : n ≤ 1000000) :
    Calls Try.prog 41 #[.slice A n c] w fun e w' => ∃ v, e = .returned v ∧ w'.ownsRow w.heap.size 5 1 v n (bytesV l) ∧ Below w.heap.size w w' := by
  cases A with
  | none =>
    have hl : l = [] := by
      rcases hr with h | ⟨_, _, h, _⟩
      · simpa [bytesV] using h
      · cases h
    subst hl
    obtain rfl : n = 0 := by simpa using hn.symm
    have hne := fun (u : World) => Lib.run_eql_slice_nil (P := Try.prog) u 24 5 none 0 c 0 0 Try.underlying24
    go_enter Try.func41, Try.ntmps41
    go_wp2
    go_ret
    exact ⟨_, rfl, World.ownsRow_nil _ _ _ _, Below.refl _ _⟩
  | some ad =>
    have Hn := Lib.hid hn
    clear hn
    have hne := fun (u : World) => Lib.run_eql_slice_nil (P := Try.prog) u 24 5 (some ad) n c 0 0 Try.underlying24
    have hlit : (w.alloc (.cells #[] 5)).ownsRow w.heap.size 5 1 (.slice (some ⟨w.heap.size, 0, none⟩) 0 0) 0 (bytesV []) := World.ownsRow_lit w #[] 0 (Nat.le_refl _) (Nat.zero_le _) rfl
    have hr1 := hr.below ((Below.refl _ w).alloc (Nat.le_refl _) (.cells #[] 5))
    go_enter Try.func41, Try.ntmps41
    go_wp2_with (at_builtin; refine wpList_app5 _ rfl (.tmp 5) (.tmp 6) rfl w.heap.size _ 0 [] rfl hlit w.heap.size (some ad) n c l rfl Hn.out hr1 (by omega) (by simp) ?_; intro v w1 hown hgrow)
    go_ret
    rw [Nat.zero_add, List.nil_append] at hown
    exact ⟨_, rfl, hown, ((Below.refl _ w).alloc (Nat.le_refl _) _).grown hgrow (by simp) (fun k hk => (hlit.lt k hk).1)⟩

set_option maxHeartbeats 1600000 in
/-- The first free place. -/
theorem first_any (S : List Slot) (hS : SOks S) (A : Option Addr) (n c : Nat) (w : World) (hn : n = S.length * 16) (hr : Rd w w.heap.size A (bytesV (dirB hsh S))) (hc : n ≤ c) (hm : c ≤ maxLen) (h240 : S.length ≤ 1000) :
    Calls Try.prog 40 #[.slice A n c] w fun e w' => e = .returned (.int .i64 ((freeIdx S * 16 : Nat) : Int)) ∧ Below w.heap.size w w' := by
  have hl : (dirB hsh S).length = n := by rw [length_dirB hS, hn]
  have HR := Lib.hid hr
  have HL := Lib.hid hl
  have HN := Lib.hid hn
  have HCM := Lib.hid (And.intro hc hm)
  obtain ⟨m, hm2⟩ : ∃ m, freeIdx S * 16 = m := ⟨_, rfl⟩
  rw [hm2]
  have HM := Lib.hid hm2
  clear hr hl hn hc hm hm2
  go_enter Try.func40, Try.ntmps40
  go_wp2
  go_loopw [3] (fun k wr => ∃ j q : Nat, k = .int .i64 (q : Int) ∧ Hid (q = j * 16) ∧ j ≤ freeIdx S ∧ Below w.heap.size w wr) (fun k _ => n - (intOf k).toNat)
  case atStart => exact ⟨0, 0, rfl, Lib.hid rfl, Nat.zero_le _, Below.refl _ _⟩
  case round =>
    obtain ⟨j, q, rfl, HQ, hj, hb⟩ := hrel
    have hjl := Nat.le_trans hj (free_le S)
    have HJ := Lib.hid hj
    have Hb := Lib.hid hb
    clear hj hb
    by_cases hlt : j < S.length
    · obtain ⟨t, ht⟩ : ∃ t, S[j]? = some t := ⟨_, List.getElem?_eq_getElem hlt⟩
      have hok := hS t (List.mem_of_getElem? ht)
      have HDS := Lib.hid (dir_slot hS ht)
      have hin : q + 16 ≤ n := by have := HN.out; have := HQ.out; omega
      have hlti : (q : Int) < (n : Int) := by omega
      have hq0 : (0 : Int) ≤ (q : Int) := by omega
      have hn64 : n ≤ 16000 := by have := HN.out; omega
      have hw2 : IntKind.i64.wrap ((q : Int) + 16) = ((q + 16 : Nat) : Int) := by rw [IntKind.wrap_i64]; omega
      have HQ2 : Hid (q + 16 = (j + 1) * 16) := Lib.hid (by have := HQ.out; omega)
      have hsl : Hid (∀ W2 : World, Below w.heap.size w W2 → Calls Try.prog 37 #[.slice A n c, .int .i64 (q : Int)] W2 fun e w' => ∃ A', e = .returned (.slice A' 16 (c - q)) ∧ Rd W2 w.heap.size A' (bytesV (slotB hsh t)) ∧ W2 = w') := fun W2 h2 => by
        rw [← HDS.out, ← HQ.out]
        exact slot_any (dirB hsh S) _ n c w.heap.size q W2 HL.out (HR.out.below h2) hin HCM.out.1 HCM.out.2
      have HLS := Lib.hid (length_slotB (H := hsh) hok)
      have HFS := Lib.hid (free_slot hok)
      have HT := Lib.hid ht
      clear ht hok
      cases t with
      | none =>
        have HJ2 : Hid (m = q) := Lib.hid (by have := free_hit HJ.out HT.out; have := HM.out; have := HQ.out; omega)
        go_wp2_with (first
          | (go_at_call 37; (with_reducible refine (hsl.out _ Hb.out).mono ?_); rintro e w3 ⟨A3, he, hr3, hw3⟩; obtain rfl := he; have HR3 := Lib.hid hr3; clear hr3; obtain rfl := hw3)
          | (go_at_call 33; (with_reducible refine (free_any (slotB hsh none) A3 16 (c - q) w.heap.size _ HLS.out HR3.out Hb.out.size).mono ?_); rintro e w4 ⟨he, hw4⟩; obtain rfl := he; rw [HFS.out]; have HB4 := Lib.hid (show Below w.heap.size w w4 by (rw [hw4]; exact Hb.out.trans ((alloc_below _ _).mono Hb.out.size))); clear hw4; simp only [Option.isNone]))
        go_ret
        exact ⟨by rw [HJ2.out]; rfl, HB4.out⟩
      | some x =>
        have HJ2 := Lib.hid (free_step HJ.out HT.out)
        go_wp2_with (first
          | (go_at_call 37; (with_reducible refine (hsl.out _ Hb.out).mono ?_); rintro e w3 ⟨A3, he, hr3, hw3⟩; obtain rfl := he; have HR3 := Lib.hid hr3; clear hr3; obtain rfl := hw3)
          | (go_at_call 33; (with_reducible refine (free_any (slotB hsh (some x)) A3 16 (c - q) w.heap.size _ HLS.out HR3.out Hb.out.size).mono ?_); rintro e w4 ⟨he, hw4⟩; obtain rfl := he; rw [HFS.out]; have HB4 := Lib.hid (show Below w.heap.size w w4 by (rw [hw4]; exact Hb.out.trans ((alloc_below _ _).mono Hb.out.size))); clear hw4; simp only [Option.isNone]))
        go_roundw
        case rel => exact ⟨j + 1, q + 16, by first | rfl | (congr 1), HQ2, HJ2.out, HB4.out⟩
        case measure => simp [intOf]; omega
    · have hje : freeIdx S = j := by have := HJ.out; have := free_le S; omega
      have HE : Hid (m = q) := Lib.hid (by have := HM.out; have := HQ.out; omega)
      have hlti : ¬ (q : Int) < (n : Int) := by have := HN.out; have := HQ.out; omega
      clear hje
      go_wp2
      go_ret
      exact ⟨by rw [HE.out]; rfl, Hb.out⟩
set_option maxHeartbeats 1600000 in
/-- Without the free places at the end. -/
theorem trim_any (S : List Slot) (hS : SOks S) (A : Option Addr) (n c : Nat) (w : World) (hn : n = S.length * 16) (hr : Rd w w.heap.size A (bytesV (dirB hsh S))) (hc : n ≤ c) (hm : c ≤ maxLen) (h240 : S.length ≤ 1000) :
    Calls Try.prog 43 #[.slice A n c] w fun e w' => e = .returned (.slice A ((cutEnd S).length * 16) c) ∧ Below w.heap.size w w' := by
  have hl : (dirB hsh S).length = n := by rw [length_dirB hS, hn]
  have HR := Lib.hid hr
  have HL := Lib.hid hl
  have HN := Lib.hid hn
  have HCM := Lib.hid (And.intro hc hm)
  obtain ⟨m, hm2⟩ : ∃ m, (cutEnd S).length * 16 = m := ⟨_, rfl⟩
  rw [hm2]
  have HM := Lib.hid hm2
  clear hr hl hn hc hm hm2
  go_enter Try.func43, Try.ntmps43
  go_wp2
  go_loopw [3] (fun k wr => ∃ j q : Nat, k = .int .i64 (q : Int) ∧ Hid (q = j * 16) ∧ j ≤ S.length ∧ cutEnd (S.take j) = cutEnd S ∧ Below w.heap.size w wr) (fun k _ => (intOf k).toNat)
  case atStart => exact ⟨S.length, n, rfl, HN, Nat.le_refl _, by rw [List.take_length], Below.refl _ _⟩
  case round =>
    obtain ⟨j, q, rfl, HQ, hj, hcut, hb⟩ := hrel
    have HC := Lib.hid hcut
    have Hb := Lib.hid hb
    clear hcut hb
    have hn64 : n ≤ 16000 := by have := HN.out; omega
    have hqn : q ≤ n := by have := HN.out; have := HQ.out; omega
    by_cases hlt : 0 < j
    · obtain ⟨i, rfl⟩ : ∃ i, j = i + 1 := ⟨j - 1, by omega⟩
      obtain ⟨p, rfl⟩ : ∃ p, q = p + 16 := ⟨q - 16, by have := HQ.out; omega⟩
      have HP : Hid (p = i * 16) := Lib.hid (by have := HQ.out; omega)
      obtain ⟨t, ht⟩ : ∃ t, S[i]? = some t := ⟨_, List.getElem?_eq_getElem (by omega)⟩
      have hok := hS t (List.mem_of_getElem? ht)
      have HDS := Lib.hid (dir_slot hS ht)
      have hlti : (0 : Int) < ((p + 16 : Nat) : Int) := by omega
      have hw2 : IntKind.i64.wrap (((p + 16 : Nat) : Int) - 16) = (p : Int) := by rw [IntKind.wrap_i64]; omega
      have hsl : Hid (∀ W2 : World, Below w.heap.size w W2 → Calls Try.prog 37 #[.slice A n c, .int .i64 (p : Int)] W2 fun e w' => ∃ A', e = .returned (.slice A' 16 (c - p)) ∧ Rd W2 w.heap.size A' (bytesV (slotB hsh t)) ∧ W2 = w') := fun W2 h2 => by
        rw [← HDS.out, ← HP.out]
        exact slot_any (dirB hsh S) _ n c w.heap.size p W2 HL.out (HR.out.below h2) hqn HCM.out.1 HCM.out.2
      have HLS := Lib.hid (length_slotB (H := hsh) hok)
      have HFS := Lib.hid (free_slot hok)
      have HT := Lib.hid ht
      clear ht hok
      obtain ⟨qq, hqq⟩ : ∃ qq : Nat, qq = p + 16 := ⟨_, rfl⟩
      rw [← hqq] at hlti hw2 hqn ⊢
      have hqc : (qq : Int) ≤ (c : Int) := by have := HCM.out.1; omega
      have HQQ := Lib.hid hqq
      clear hqq
      cases t with
      | none =>
        have HC2 := Lib.hid ((cut_take_none HT.out).symm.trans HC.out)
        go_wp2_with (first
          | (go_at_call 37; (with_reducible refine (hsl.out _ Hb.out).mono ?_); rintro e w3 ⟨A3, he, hr3, hw3⟩; obtain rfl := he; have HR3 := Lib.hid hr3; clear hr3; obtain rfl := hw3)
          | (go_at_call 33; (with_reducible refine (free_any (slotB hsh none) A3 16 (c - p) w.heap.size _ HLS.out HR3.out Hb.out.size).mono ?_); rintro e w4 ⟨he, hw4⟩; obtain rfl := he; rw [HFS.out]; have HB4 := Lib.hid (show Below w.heap.size w w4 by (rw [hw4]; exact Hb.out.trans ((alloc_below _ _).mono Hb.out.size))); clear hw4; simp only [Option.isNone]))
        go_roundw
        case rel => exact ⟨i, p, by first | rfl | (congr 1), HP, by omega, HC2.out, HB4.out⟩
        case measure => have := HQQ.out; simp [intOf]; omega
      | some x =>
        have HC2 := Lib.hid ((cut_take_some HT.out).symm.trans HC.out)
        have HLC : Hid (m = qq) := Lib.hid (by rw [← HM.out, ← HC2.out, List.length_take, HQQ.out, HP.out]; omega)
        go_wp2_with (first
          | (go_at_call 37; (with_reducible refine (hsl.out _ Hb.out).mono ?_); rintro e w3 ⟨A3, he, hr3, hw3⟩; obtain rfl := he; have HR3 := Lib.hid hr3; clear hr3; obtain rfl := hw3)
          | (go_at_call 33; (with_reducible refine (free_any (slotB hsh (some x)) A3 16 (c - p) w.heap.size _ HLS.out HR3.out Hb.out.size).mono ?_); rintro e w4 ⟨he, hw4⟩; obtain rfl := he; rw [HFS.out]; have HB4 := Lib.hid (show Below w.heap.size w w4 by (rw [hw4]; exact Hb.out.trans ((alloc_below _ _).mono Hb.out.size))); clear hw4; simp only [Option.isNone]))
        go_ret
        exact ⟨by rw [HLC.out]; rfl, HB4.out⟩
    · obtain rfl : j = 0 := by omega
      obtain rfl : q = 0 := by have := HQ.out; omega
      have HLC : Hid (m = 0) := Lib.hid (by rw [← HM.out, ← HC.out]; rfl)
      go_wp2
      go_ret
      exact ⟨by rw [HLC.out]; rfl, Hb.out⟩
end Go.Proofs.Ytlopndnjkphdnaa.Entry
