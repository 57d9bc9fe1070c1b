/-
  Where a name stands in a directory: package entry's search, a loop by goto.
-/
import Derived.Test.YtlopndnjkphdnaaEntryX5
import Derived.ScopeJumps
import Derived.WalkMore
namespace Go.Proofs.Ytlopndnjkphdnaa.Entry
open Go.RowKit

/-- Whether a place bears a name, and the first one that does. -/
def isN (n : List UInt8) : Slot → Bool
  | some x => x.n == n
  | none => false
def idxOf (S : List Slot) (n : List UInt8) : Nat := S.findIdx (isN n)
theorem idx_le (S : List Slot) (n : List UInt8) : idxOf S n ≤ S.length := List.findIdx_le_length
theorem idx_step {S : List Slot} {n : List UInt8} {j : Nat} {t : Slot} (h : j ≤ idxOf S n) (ht : S[j]? = some t) (hn : isN n t = false) : j + 1 ≤ idxOf S n := by
  rcases Nat.lt_or_ge j (idxOf S n) with hlt | hge
  · exact hlt
  · have e : idxOf S n = j := by omega
    obtain ⟨hj, hjt⟩ := List.getElem?_eq_some_iff.1 ht
    have := List.findIdx_getElem (xs := S) (p := isN n) (w := by unfold idxOf at e; omega)
    unfold idxOf at e
    simp only [e, hjt, hn] at this
    cases this
theorem idx_hit {S : List Slot} {n : List UInt8} {j : Nat} {t : Slot} (h : j ≤ idxOf S n) (ht : S[j]? = some t) (hn : isN n t = true) : idxOf S n = j := by
  obtain ⟨hj, hjt⟩ := List.getElem?_eq_some_iff.1 ht
  rcases Nat.lt_or_ge j (idxOf S n) with hlt | hge
  · have := List.not_of_lt_findIdx (p := isN n) hlt
    rw [hjt, hn] at this
    cases this
  · omega
theorem idx_end {S : List Slot} {n : List UInt8} {j : Nat} (h : j ≤ idxOf S n) (hj : j = S.length) : idxOf S n = j := by
  have := idx_le S n
  omega
/-- A place's bytes among all. -/
theorem dir_slot {S : List Slot} (h : SOks S) {j : Nat} {t : Slot} (ht : S[j]? = some t) : ((dirB hsh S).drop (j * 16)).take 16 = slotB hsh t := by
  induction S generalizing j with
  | nil => simp at ht
  | cons s S ih =>
    have hl := length_slotB (H := hsh) (h s (by simp))
    cases j with
    | zero =>
      simp at ht
      subst ht
      show ((slotB hsh s ++ dirB hsh S).drop 0).take 16 = _
      rw [List.drop_zero, ← hl, List.take_left]
    | succ j =>
      have e : (dirB hsh (s :: S)).drop ((j + 1) * 16) = (dirB hsh S).drop (j * 16) := by
        show (slotB hsh s ++ dirB hsh S).drop ((j + 1) * 16) = _
        rw [List.drop_append, List.drop_of_length_le (by omega), List.nil_append]
        congr 1
        omega
      rw [e]
      exact ih (fun t ht => h t (by simp [ht])) (by simpa using ht)
theorem getD_part {l : List UInt8} {p i : Nat} (hi : i < 16) : ((l.drop p).take 16).getD i 0 = l.getD (p + i) 0 := by
  simp [List.getD_eq_getElem?_getD, hi]
/-- The byte that a place's name is looked for by. -/
def tagB : Slot → UInt8
  | some x => hsh x.n
  | none => 0
theorem tag_slot {t : Slot} : (slotB hsh t).getD 1 0 = tagB t := by
  cases t with
  | none => rfl
  | some x =>
    show (entB hsh x).getD 1 0 = _
    rw [entB_eq]
    rfl
def nmS : Slot → List UInt8
  | some x => x.n
  | none => []
theorem name_slot {t : Slot} (h : SOk t) : nameL (slotB hsh t) = nmS t := by
  cases t with
  | none => rfl
  | some x => exact name_entB (h x rfl)
theorem free_slot {t : Slot} (h : SOk t) : (slotB hsh t == zeros16) = t.isNone := by
  cases t with
  | none => simp [slotB]
  | some x =>
    have := ent_ne (H := hsh) (h x rfl)
    simpa [slotB] using this

/-- What holds at the label. -/
def Srch (w : World) (A : Option Addr) (n c : Nat) (s : ByteArray) (hh : Int) (S : List Slot) (a : Act) (w' : World) : Prop :=
  ∃ (j q : Nat) (u7 u8 u9 u10 u11 u12 u13 u14 u15 u16 u17 u18 u19 u20 u21 u22 u23 u24 u25 u26 u27 u28 u29 u30 u31 u32 u33 u34 u35 u36 u37 u38 u39 u40 u41 u42 u43 u44 : Value), a = { tmps := #[.slice A n c, .string s, undef, undef, .int .i64 0, .int .u8 hh, .int .i64 (q : Int), u7, u8, u9, u10, u11, u12, u13, u14, u15, u16, u17, u18, u19, u20, u21, u22, u23, u24, u25, u26, u27, u28, u29, u30, u31, u32, u33, u34, u35, u36, u37, u38, u39, u40, u41, u42, u43, u44], defers := [] } ∧ Hid (q = j * 16) ∧ j ≤ idxOf S s.data.toList ∧ Below w.heap.size w w'

set_option maxRecDepth 100000 in
set_option maxHeartbeats 3200000 in
theorem search_any (S : List Slot) (hS : SOks S) (A : Option Addr) (n c : Nat) (s : ByteArray) (w : World) (hn : n = S.length * 16) (hr : Rd w w.heap.size A (bytesV (dirB hsh S))) (hc : n ≤ c) (hm : c ≤ maxLen) (hs : s.size ≤ 1000000) (h240 : S.length ≤ 1000) :
    Calls Try.prog 38 #[.slice A n c, .string s] w fun e w' => e = .returned (.int .i64 ((idxOf S s.data.toList * 16 : Nat) : Int)) ∧ Below w.heap.size w w' := by
  have HH := Lib.hid (fun w => bits_of s w (by omega))
  have HR := Lib.hid hr
  have hl : (dirB hsh S).length = n := by rw [length_dirB hS, hn]
  have HL := Lib.hid hl
  have HN := Lib.hid hn
  have HCM := Lib.hid (And.intro hc hm)
  obtain ⟨hh, hhe⟩ : ∃ hh : Int, ((hsh s.data.toList).toNat : Int) = hh := ⟨_, rfl⟩
  rw [hhe] at HH
  have HHE := Lib.hid hhe
  clear hr hl hn hc hm hhe hs
  go_enter Try.func38, Try.ntmps38
  go_wp2
  refine wp_scope_jumps 0 (Srch w A n c s hh S) (fun a _ => n - (intOf (a.tmps.getD 6 undef)).toNat) rfl ?_ ?_
  · go_wp2_with (go_at_call 29; (with_reducible refine (HH.out _).mono ?_); rintro e w1 ⟨he, hb1⟩; obtain rfl := he)
    have Hb := Lib.hid hb1
    obtain ⟨j0, hj0⟩ : ∃ j0 : Nat, j0 = 0 := ⟨_, rfl⟩
    obtain ⟨q0, hq0⟩ : ∃ q0 : Nat, q0 = 0 := ⟨_, rfl⟩
    have HQ0 := Lib.hid hq0
    have Hj := Lib.hid (show j0 ≤ idxOf S s.data.toList by omega)
    have HJ0 : Hid (q0 = j0 * 16) := Lib.hid (by omega)
    clear hb1 hj0 hq0
    go_step3
    go_wp2
    go_loopw [6] (fun k wr => ∃ j q : Nat, k = .int .i64 (q : Int) ∧ Hid (q = j * 16) ∧ j0 ≤ j ∧ j ≤ idxOf S s.data.toList ∧ wr = w1) (fun k _ => n - (intOf k).toNat)
    case atStart => exact ⟨j0, q0, by first | rfl | (rw [HQ0.out]; rfl), HJ0, Nat.le_refl _, Hj.out, rfl⟩
    case round =>
      obtain ⟨j, q, rfl, HQ, hjj, hj, hwr⟩ := hrel
      have hjl := Nat.le_trans hj (idx_le S s.data.toList)
      have HJ := Lib.hid hj
      have HJJ := Lib.hid hjj
      clear hj hjj
      subst hwr
      by_cases hlt : j < S.length
      · obtain ⟨t, ht⟩ : ∃ t, S[j]? = some t := ⟨_, List.getElem?_eq_getElem hlt⟩
        have hok := hS t (List.mem_of_getElem? ht)
        have hds := dir_slot hS ht
        have htag : (dirB hsh S).getD (q + 1) 0 = tagB t := by rw [HQ.out, ← getD_part (by omega), hds, tag_slot]
        obtain ⟨b, o, hAe, hbB⟩ := rd_at HR.out (bytesV_ne HL.out (by have := HN.out; omega))
        subst hAe
        have hcell := rd_get (HR.out.below Hb.out) (q + 1) (by have := HL.out; have := HN.out; have := HQ.out; omega)
        rw [htag] at hcell
        have hin : q + 16 ≤ n := by have := HN.out; have := HQ.out; omega
        have hlti : (q : Int) < (n : Int) := by omega
        have hq0 : (0 : Int) ≤ (q : Int) := by omega
        have hn64 : n ≤ 16000 := by have := HN.out; omega
        have hin2 : ((q + 1 : Nat) : Int) < (n : Int) := by omega
        have hw1 : IntKind.i64.wrap ((q : Int) + 1) = ((q + 1 : Nat) : Int) := by rw [IntKind.wrap_i64]; omega
        have hw2 : IntKind.i64.wrap ((q : Int) + 16) = ((q + 16 : Nat) : Int) := by rw [IntKind.wrap_i64]; omega
        have HT := Lib.hid ht
        have HOK := Lib.hid hok
        have HDS := Lib.hid hds
        have HQ2 : Hid (q + 16 = (j + 1) * 16) := Lib.hid (by have := HQ.out; omega)
        by_cases htg : tagB t = hsh s.data.toList
        · have hte : ((tagB t).toNat : Int) = hh := by rw [← HHE.out, htg]
          rw [hte] at hcell
          have hne3 : ((q : Int) == (n : Int)) = false := by simp; omega
          have hsl : Hid (∀ W2 : World, Below w.heap.size w W2 → Calls Try.prog 37 #[.slice (some ⟨b, o, none⟩) n c, .int .i64 (q : Int)] W2 fun e w' => ∃ A', e = .returned (.slice A' 16 (c - q)) ∧ Rd W2 w.heap.size A' (bytesV (slotB hsh t)) ∧ W2 = w') := fun W2 h2 => by
            rw [← HDS.out, ← HQ.out]
            exact slot_any (dirB hsh S) _ n c w.heap.size q W2 HL.out (HR.out.below h2) hin HCM.out.1 HCM.out.2
          have hls := length_slotB (H := hsh) hok
          have HLS := Lib.hid hls
          have HFS := Lib.hid (free_slot hok)
          have HNS := Lib.hid (name_slot hok)
          have hcj : 16 ≤ c - q := by have := HCM.out.1; omega
          clear htag ht hok hds hls htg hte
          cases t with
          | none =>
            have HJ2 := Lib.hid (idx_step HJ.out HT.out (show isN s.data.toList none = false from rfl))
            go_wp2_with (first
              | (go_at_call 37; (with_reducible refine (hsl.out _ Hb.out).mono ?_); rintro e w3 ⟨A3, he, hr3, hw3⟩; obtain rfl := he; have HR3 := Lib.hid hr3; clear hr3; obtain rfl := hw3)
              | (go_at_call 33; (with_reducible refine (free_any (slotB hsh none) A3 16 (c - q) w.heap.size _ HLS.out HR3.out Hb.out.size).mono ?_); rintro e w4 ⟨he, hw4⟩; obtain rfl := he; rw [HFS.out]; have HW4 := Lib.hid hw4; clear hw4))
            have HB4 := Lib.hid (show Below w.heap.size w w4 by rw [HW4.out]; exact Hb.out.trans ((alloc_below _ _).mono Hb.out.size))
            go_step3
            exact ⟨rfl, j + 1, q + 16, _, _, _, _, _, _, _, _, _, _, _, _, _, _, _, _, _, _, _, _, _, _, _, _, _, _, _, _, _, _, _, _, _, _, _, _, _, _, by first | rfl | (congr 1), HQ2, HJ2.out, HB4.out⟩
          | some x =>
            cases hnx : (x.n == s.data.toList)
            · have hnx2 : (nmS (some x) == s.toList) = false := by rw [ByteArray.toList_eq]; exact hnx
              have HJ2 := Lib.hid (idx_step HJ.out HT.out (show isN s.data.toList (some x) = false from hnx))
              clear hnx
              go_wp2_with (first
                | (go_at_call 37; (with_reducible refine (hsl.out _ Hb.out).mono ?_); rintro e w3 ⟨A3, he, hr3, hw3⟩; obtain rfl := he; have HR3 := Lib.hid hr3; clear hr3; obtain rfl := hw3)
                | (go_at_call 33; (with_reducible refine (free_any (slotB hsh (some x)) A3 16 (c - q) w.heap.size _ HLS.out HR3.out Hb.out.size).mono ?_); rintro e w4 ⟨he, hw4⟩; obtain rfl := he; rw [HFS.out]; have HB4 := Lib.hid (show Below w.heap.size w w4 by (rw [hw4]; exact Hb.out.trans ((alloc_below _ _).mono Hb.out.size))); have HR4 := Lib.hid (show Rd w4 w.heap.size A3 (bytesV (slotB hsh (some x))) by (rw [hw4]; exact HR3.out.below ((alloc_below _ _).mono Hb.out.size))); clear hw4)
                | (go_at_call 34; (with_reducible refine (name_any (slotB hsh (some x)) A3 (c - q) w.heap.size _ HLS.out HR4.out hcj).mono ?_); rintro e w5 ⟨he, hw5⟩; obtain rfl := he; rw [HNS.out]; obtain rfl := hw5))
              go_step3
              exact ⟨rfl, j + 1, q + 16, _, _, _, _, _, _, _, _, _, _, _, _, _, _, _, _, _, _, _, _, _, _, _, _, _, _, _, _, _, _, _, _, _, _, _, _, _, _, by first | rfl | (congr 1), HQ2, HJ2.out, HB4.out⟩
            · have hnx2 : (nmS (some x) == s.toList) = true := by rw [ByteArray.toList_eq]; exact hnx
              have HJ2 := Lib.hid (idx_hit HJ.out HT.out (show isN s.data.toList (some x) = true from hnx))
              clear hnx
              go_wp2_with (first
                | (go_at_call 37; (with_reducible refine (hsl.out _ Hb.out).mono ?_); rintro e w3 ⟨A3, he, hr3, hw3⟩; obtain rfl := he; have HR3 := Lib.hid hr3; clear hr3; obtain rfl := hw3)
                | (go_at_call 33; (with_reducible refine (free_any (slotB hsh (some x)) A3 16 (c - q) w.heap.size _ HLS.out HR3.out Hb.out.size).mono ?_); rintro e w4 ⟨he, hw4⟩; obtain rfl := he; rw [HFS.out]; have HB4 := Lib.hid (show Below w.heap.size w w4 by (rw [hw4]; exact Hb.out.trans ((alloc_below _ _).mono Hb.out.size))); have HR4 := Lib.hid (show Rd w4 w.heap.size A3 (bytesV (slotB hsh (some x))) by (rw [hw4]; exact HR3.out.below ((alloc_below _ _).mono Hb.out.size))); clear hw4)
                | (go_at_call 34; (with_reducible refine (name_any (slotB hsh (some x)) A3 (c - q) w.heap.size _ HLS.out HR4.out hcj).mono ?_); rintro e w5 ⟨he, hw5⟩; obtain rfl := he; rw [HNS.out]; obtain rfl := hw5))
              try simp only [Exit.jump]
              go_ret
              exact ⟨by rw [HJ2.out, ← HQ.out]; rfl, HB4.out⟩
        · have hne : (((tagB t).toNat : Int) != hh) = true := by rw [← HHE.out]; simp; intro h; exact htg (UInt8.toNat_inj.1 (by omega))
          have hno : isN s.data.toList t = false := by
            cases t with
            | none => rfl
            | some x =>
              cases hx : isN s.data.toList (some x) with
              | false => rfl
              | true => exact absurd (by have : x.n = s.data.toList := by simpa [isN] using hx
                                         show hsh x.n = _
                                         rw [this]) htg
          have HJ2 := Lib.hid (idx_step HJ.out HT.out hno)
          have HJJ2 := Lib.hid (Nat.le_succ_of_le HJJ.out)
          clear htag ht hok hds hno
          go_wp2
          go_roundw
          case rel => exact ⟨j + 1, q + 16, by first | rfl | (congr 1), HQ2, HJJ2.out, HJ2.out, trivial⟩
          case measure => simp [intOf]; omega
      · have HE := Lib.hid (idx_end HJ.out (by omega))
        have hje : n = q := by have := HN.out; have := HQ.out; omega
        have hlti : ¬ (q : Int) < (n : Int) := by omega
        have hne3 : ((q : Int) == (n : Int)) = true := by simp; omega
        have HQN := Lib.hid hje
        clear hje
        go_wp2
        try simp only [Exit.jump]
        go_ret
        exact ⟨by rw [HE.out, ← HQ.out]; rfl, Hb.out⟩
  · rintro a w1 ⟨j0, q0, u7, u8, u9, u10, u11, u12, u13, u14, u15, u16, u17, u18, u19, u20, u21, u22, u23, u24, u25, u26, u27, u28, u29, u30, u31, u32, u33, u34, u35, u36, u37, u38, u39, u40, u41, u42, u43, u44, rfl, HJ0, hj0, hb⟩
    have Hb := Lib.hid hb
    have Hj := Lib.hid hj0
    clear hb hj0
    go_wp2
    go_loopw [6] (fun k wr => ∃ j q : Nat, k = .int .i64 (q : Int) ∧ Hid (q = j * 16) ∧ j0 ≤ j ∧ j ≤ idxOf S s.data.toList ∧ wr = w1) (fun k _ => n - (intOf k).toNat)
    case atStart => exact ⟨j0, q0, by first | rfl | (rw [HQ0.out]; rfl), HJ0, Nat.le_refl _, Hj.out, rfl⟩
    case round =>
      obtain ⟨j, q, rfl, HQ, hjj, hj, hwr⟩ := hrel
      have hjl := Nat.le_trans hj (idx_le S s.data.toList)
      have HJ := Lib.hid hj
      have HJJ := Lib.hid hjj
      clear hj hjj
      subst hwr
      by_cases hlt : j < S.length
      · obtain ⟨t, ht⟩ : ∃ t, S[j]? = some t := ⟨_, List.getElem?_eq_getElem hlt⟩
        have hok := hS t (List.mem_of_getElem? ht)
        have hds := dir_slot hS ht
        have htag : (dirB hsh S).getD (q + 1) 0 = tagB t := by rw [HQ.out, ← getD_part (by omega), hds, tag_slot]
        obtain ⟨b, o, hAe, hbB⟩ := rd_at HR.out (bytesV_ne HL.out (by have := HN.out; omega))
        subst hAe
        have hcell := rd_get (HR.out.below Hb.out) (q + 1) (by have := HL.out; have := HN.out; have := HQ.out; omega)
        rw [htag] at hcell
        have hin : q + 16 ≤ n := by have := HN.out; have := HQ.out; omega
        have hlti : (q : Int) < (n : Int) := by omega
        have hq0 : (0 : Int) ≤ (q : Int) := by omega
        have hn64 : n ≤ 16000 := by have := HN.out; omega
        have hin2 : ((q + 1 : Nat) : Int) < (n : Int) := by omega
        have hw1 : IntKind.i64.wrap ((q : Int) + 1) = ((q + 1 : Nat) : Int) := by rw [IntKind.wrap_i64]; omega
        have hw2 : IntKind.i64.wrap ((q : Int) + 16) = ((q + 16 : Nat) : Int) := by rw [IntKind.wrap_i64]; omega
        have HT := Lib.hid ht
        have HOK := Lib.hid hok
        have HDS := Lib.hid hds
        have HQ2 : Hid (q + 16 = (j + 1) * 16) := Lib.hid (by have := HQ.out; omega)
        by_cases htg : tagB t = hsh s.data.toList
        · have hte : ((tagB t).toNat : Int) = hh := by rw [← HHE.out, htg]
          rw [hte] at hcell
          have hne3 : ((q : Int) == (n : Int)) = false := by simp; omega
          have hsl : Hid (∀ W2 : World, Below w.heap.size w W2 → Calls Try.prog 37 #[.slice (some ⟨b, o, none⟩) n c, .int .i64 (q : Int)] W2 fun e w' => ∃ A', e = .returned (.slice A' 16 (c - q)) ∧ Rd W2 w.heap.size A' (bytesV (slotB hsh t)) ∧ W2 = w') := fun W2 h2 => by
            rw [← HDS.out, ← HQ.out]
            exact slot_any (dirB hsh S) _ n c w.heap.size q W2 HL.out (HR.out.below h2) hin HCM.out.1 HCM.out.2
          have hls := length_slotB (H := hsh) hok
          have HLS := Lib.hid hls
          have HFS := Lib.hid (free_slot hok)
          have HNS := Lib.hid (name_slot hok)
          have hcj : 16 ≤ c - q := by have := HCM.out.1; omega
          clear htag ht hok hds hls htg hte
          cases t with
          | none =>
            have HJ2 := Lib.hid (idx_step HJ.out HT.out (show isN s.data.toList none = false from rfl))
            go_wp2_with (first
              | (go_at_call 37; (with_reducible refine (hsl.out _ Hb.out).mono ?_); rintro e w3 ⟨A3, he, hr3, hw3⟩; obtain rfl := he; have HR3 := Lib.hid hr3; clear hr3; obtain rfl := hw3)
              | (go_at_call 33; (with_reducible refine (free_any (slotB hsh none) A3 16 (c - q) w.heap.size _ HLS.out HR3.out Hb.out.size).mono ?_); rintro e w4 ⟨he, hw4⟩; obtain rfl := he; rw [HFS.out]; have HW4 := Lib.hid hw4; clear hw4))
            have HB4 := Lib.hid (show Below w.heap.size w w4 by rw [HW4.out]; exact Hb.out.trans ((alloc_below _ _).mono Hb.out.size))
            go_step3
            exact ⟨rfl, ⟨j + 1, q + 16, _, _, _, _, _, _, _, _, _, _, _, _, _, _, _, _, _, _, _, _, _, _, _, _, _, _, _, _, _, _, _, _, _, _, _, _, _, _, by first | rfl | (congr 1), HQ2, HJ2.out, HB4.out⟩, by simp [intOf]; have := HJJ.out; have := HQ.out; have := HJ0.out; omega⟩
          | some x =>
            cases hnx : (x.n == s.data.toList)
            · have hnx2 : (nmS (some x) == s.toList) = false := by rw [ByteArray.toList_eq]; exact hnx
              have HJ2 := Lib.hid (idx_step HJ.out HT.out (show isN s.data.toList (some x) = false from hnx))
              clear hnx
              go_wp2_with (first
                | (go_at_call 37; (with_reducible refine (hsl.out _ Hb.out).mono ?_); rintro e w3 ⟨A3, he, hr3, hw3⟩; obtain rfl := he; have HR3 := Lib.hid hr3; clear hr3; obtain rfl := hw3)
                | (go_at_call 33; (with_reducible refine (free_any (slotB hsh (some x)) A3 16 (c - q) w.heap.size _ HLS.out HR3.out Hb.out.size).mono ?_); rintro e w4 ⟨he, hw4⟩; obtain rfl := he; rw [HFS.out]; have HB4 := Lib.hid (show Below w.heap.size w w4 by (rw [hw4]; exact Hb.out.trans ((alloc_below _ _).mono Hb.out.size))); have HR4 := Lib.hid (show Rd w4 w.heap.size A3 (bytesV (slotB hsh (some x))) by (rw [hw4]; exact HR3.out.below ((alloc_below _ _).mono Hb.out.size))); clear hw4)
                | (go_at_call 34; (with_reducible refine (name_any (slotB hsh (some x)) A3 (c - q) w.heap.size _ HLS.out HR4.out hcj).mono ?_); rintro e w5 ⟨he, hw5⟩; obtain rfl := he; rw [HNS.out]; obtain rfl := hw5))
              go_step3
              exact ⟨rfl, ⟨j + 1, q + 16, _, _, _, _, _, _, _, _, _, _, _, _, _, _, _, _, _, _, _, _, _, _, _, _, _, _, _, _, _, _, _, _, _, _, _, _, _, _, by first | rfl | (congr 1), HQ2, HJ2.out, HB4.out⟩, by simp [intOf]; have := HJJ.out; have := HQ.out; have := HJ0.out; omega⟩
            · have hnx2 : (nmS (some x) == s.toList) = true := by rw [ByteArray.toList_eq]; exact hnx
              have HJ2 := Lib.hid (idx_hit HJ.out HT.out (show isN s.data.toList (some x) = true from hnx))
              clear hnx
              go_wp2_with (first
                | (go_at_call 37; (with_reducible refine (hsl.out _ Hb.out).mono ?_); rintro e w3 ⟨A3, he, hr3, hw3⟩; obtain rfl := he; have HR3 := Lib.hid hr3; clear hr3; obtain rfl := hw3)
                | (go_at_call 33; (with_reducible refine (free_any (slotB hsh (some x)) A3 16 (c - q) w.heap.size _ HLS.out HR3.out Hb.out.size).mono ?_); rintro e w4 ⟨he, hw4⟩; obtain rfl := he; rw [HFS.out]; have HB4 := Lib.hid (show Below w.heap.size w w4 by (rw [hw4]; exact Hb.out.trans ((alloc_below _ _).mono Hb.out.size))); have HR4 := Lib.hid (show Rd w4 w.heap.size A3 (bytesV (slotB hsh (some x))) by (rw [hw4]; exact HR3.out.below ((alloc_below _ _).mono Hb.out.size))); clear hw4)
                | (go_at_call 34; (with_reducible refine (name_any (slotB hsh (some x)) A3 (c - q) w.heap.size _ HLS.out HR4.out hcj).mono ?_); rintro e w5 ⟨he, hw5⟩; obtain rfl := he; rw [HNS.out]; obtain rfl := hw5))
              try simp only [Exit.jump]
              go_ret
              exact ⟨by rw [HJ2.out, ← HQ.out]; rfl, HB4.out⟩
        · have hne : (((tagB t).toNat : Int) != hh) = true := by rw [← HHE.out]; simp; intro h; exact htg (UInt8.toNat_inj.1 (by omega))
          have hno : isN s.data.toList t = false := by
            cases t with
            | none => rfl
            | some x =>
              cases hx : isN s.data.toList (some x) with
              | false => rfl
              | true => exact absurd (by have : x.n = s.data.toList := by simpa [isN] using hx
                                         show hsh x.n = _
                                         rw [this]) htg
          have HJ2 := Lib.hid (idx_step HJ.out HT.out hno)
          have HJJ2 := Lib.hid (Nat.le_succ_of_le HJJ.out)
          clear htag ht hok hds hno
          go_wp2
          go_roundw
          case rel => exact ⟨j + 1, q + 16, by first | rfl | (congr 1), HQ2, HJJ2.out, HJ2.out, trivial⟩
          case measure => simp [intOf]; omega
      · have HE := Lib.hid (idx_end HJ.out (by omega))
        have hje : n = q := by have := HN.out; have := HQ.out; omega
        have hlti : ¬ (q : Int) < (n : Int) := by omega
        have hne3 : ((q : Int) == (n : Int)) = true := by simp; omega
        have HQN := Lib.hid hje
        clear hje
        go_wp2
        try simp only [Exit.jump]
        go_ret
        exact ⟨by rw [HE.out, ← HQ.out]; rfl, Hb.out⟩
end Go.Proofs.Ytlopndnjkphdnaa.Entry
