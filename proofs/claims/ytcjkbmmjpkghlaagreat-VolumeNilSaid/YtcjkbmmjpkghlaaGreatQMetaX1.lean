/-
  Package meta: which owners, bits, inodes and sectors may be, and Right.
-/
import Derived.Test.YtcjkbmmjpkghlaaGreatQMetaU
import Derived.Test.YtcjkbmmjpkghlaaGreatQBits
import Derived.Test.YtcjkbmmjpkghlaaGreatQSuper
namespace Go.Proofs.YtcjkbmmjpkghlaaGreat.Meta
open Go.Proofs.YtcjkbmmjpkghlaaGreat
open Go.RowKit

def badO (x : Int) : Bool := decide (x < 0) || decide (16 < x)
theorem ao1_any (x : Int) (w : World) : Calls Tryz.prog 197 #[.int .i64 x] w fun e w' => e = .returned (.bool (badO x)) ∧ w = w' := by
  by_cases h0 : x < 0
  · have e : badO x = true := by simp [badO, h0]
    rw [e]
    go_enter Tryz.func197, Tryz.ntmps197
    go_wp2
    go_ret
    exact ⟨rfl, rfl⟩
  · by_cases h1 : 16 < x
    · have e : badO x = true := by simp [badO, h1]
      rw [e]
      go_enter Tryz.func197, Tryz.ntmps197
      go_wp2
      go_ret
      exact ⟨rfl, rfl⟩
    · have e : badO x = false := by simp [badO, h0, h1]
      rw [e]
      go_enter Tryz.func197, Tryz.ntmps197
      go_wp2
      go_ret
      exact ⟨rfl, rfl⟩
noncomputable def badI (n : Inode.Ino) : Bool := !Inode.rightB n
theorem ai1_any (n : Inode.Ino) (ho : Inode.Oki n) (w : World) : Calls Tryz.prog 198 #[.agg (Inode.cellsI n).toArray] w fun e w' => e = .returned (.bool (badI n)) ∧ Below w.heap.size w w' := by
  obtain ⟨r, hr⟩ : ∃ r, Inode.rightB n = r := ⟨_, rfl⟩
  have HR : Hid (∀ u : World, Calls Tryz.prog 92 #[.agg (Inode.cellsI n).toArray] u fun e w' => e = .returned (.bool r) ∧ Below u.heap.size u w') := Lib.hid (fun u => by
    have := Inode.right_any n ho u
    rwa [hr] at this)
  have e : badI n = !r := by unfold badI; rw [hr]
  rw [e]
  clear e hr
  obtain ⟨k, rr, l, s, p⟩ := n
  obtain ⟨p0, p1, p2, p3, p4, p5, p6, p7, p8, p9, hp⟩ := Inode.ten_of ho.len
  simp only at hp
  subst hp
  clear ho
  simp only [Inode.cellsI, Inode.intsV, List.map_cons, List.map_nil] at HR ⊢
  go_enter Tryz.func198, Tryz.ntmps198
  go_wp2_with (go_at_call 92; (with_reducible refine (HR.out _).mono ?_); rintro e w2 ⟨he, hb⟩; obtain rfl := he; have HB := Lib.hid (((al_below w _).trans (hb.mono (by simp)) : Below w.heap.size w w2)); clear hb)
  go_ret
  exact ⟨rfl, HB.out⟩
def badS (b : List UInt8) : Bool := b.length != 64
theorem as1_any (b : List UInt8) (A : Option Addr) (n c : Nat) (hn : b.length = n) (w : World) : Calls Tryz.prog 179 #[.slice A n c] w fun e w' => e = .returned (.bool (badS b)) ∧ w = w' := by
  have e : badS b = ((n : Int) != 64) := by unfold badS; rw [hn, Bool.eq_iff_iff]; simp; omega
  rw [e]
  go_enter Tryz.func179, Tryz.ntmps179
  go_wp2
  go_ret
  exact ⟨rfl, rfl⟩

set_option maxRecDepth 100000 in
set_option maxHeartbeats 1600000 in
theorem index_own (l : List Int) (A : Option Addr) (n c : Nat) (w : World) (hn : l.length = n) (hr : Rd w w.heap.size A (Inode.intsV l)) (hm : n ≤ 1000000) (r : Bool) (hr0 : l.any badO = r) :
    Calls Tryz.prog 214 #[.slice A n c, .func (.func 197) #[] #[]] w fun e w' => (∃ k : Int, e = .returned (.int .i64 k) ∧ decide (0 ≤ k) = r) ∧ Below w.heap.size w w' := by
  have Hn := Lib.hid hn
  have Hr := Lib.hid hr
  have Hb := Lib.hid hr0
  clear hn hr hr0
  go_enter Tryz.func214, Tryz.ntmps214
  go_wp2
  go_loopw [5, 8] (fun _ i wr => ∃ j : Nat, j ≤ n ∧ i = .int .i64 (j : Int) ∧ Hid (∀ (k : Nat) x, k < j → l[k]? = some x → badO x = false) ∧ Hid (Below w.heap.size w wr)) (fun _ i _ => n - (intOf i).toNat)
  case atStart => exact ⟨0, Nat.zero_le _, rfl, Lib.hid (fun k s hk => by omega), Lib.hid (Below.refl _ _)⟩
  case round =>
    obtain ⟨j, hj, rfl, Hf, HB⟩ := hrel
    by_cases hlt : j < n
    · obtain ⟨x, hx⟩ : ∃ x, l[j]? = some x := ⟨_, List.getElem?_eq_getElem (by rw [Hn.out]; exact hlt)⟩
      obtain ⟨b, o, hA, hb⟩ := rd_first Hr.out (by rw [Inode.length_intsV, Hn.out]; omega)
      subst hA
      have hcx := rd_int (Hr.out.below HB.out) hx
      have HX := Lib.hid hx
      have hlti : (j : Int) < (n : Int) := by omega
      have hj0 : (0 : Int) ≤ (j : Int) := by omega
      clear hx
      cases hp : badO x with
      | false =>
        have Hnext : Hid (∀ (k : Nat) x, k < j + 1 → l[k]? = some x → badO x = false) := Lib.hid fun k y hk hy => by
          by_cases e : k = j
          · subst e
            rw [HX.out] at hy
            injection hy with hy
            rw [← hy]; exact hp
          · exact Hf.out k y (by omega) hy
        go_wp2_with (first | (go_at_call 197; (with_reducible refine (ao1_any _ _).mono ?_); rintro e w2 ⟨he, hw⟩; subst hw; rw [hp] at he; obtain rfl := he))
        have HB2 := HB
        go_roundw
        case rel => exact ⟨j + 1, by omega, by go_num, Hnext, HB2⟩
        case measure => simp [intOf]; omega
      | true =>
        have hrt : Hid (r = true) := Lib.hid (by rw [← Hb.out]; exact List.any_eq_true.2 ⟨x, List.mem_of_getElem? HX.out, hp⟩)
        go_wp2_with (first | (go_at_call 197; (with_reducible refine (ao1_any _ _).mono ?_); rintro e w2 ⟨he, hw⟩; subst hw; rw [hp] at he; obtain rfl := he))
        have HB2 := HB
        go_ret
        exact ⟨⟨(j : Int), rfl, by rw [hrt.out]; simp⟩, HB2.out⟩
    · obtain rfl : j = n := by omega
      have hrf : Hid (r = false) := Lib.hid (by
        rw [← Hb.out]
        refine List.any_eq_false.2 fun y hy => ?_
        obtain ⟨k, hk, rfl⟩ := List.getElem_of_mem hy
        rw [Hf.out k _ (by rw [← Hn.out]; exact hk) (List.getElem?_eq_getElem hk)]
        exact Bool.false_ne_true)
      go_wp2
      go_ret
      exact ⟨⟨-1, rfl, by rw [hrf.out]; rfl⟩, HB.out⟩
theorem contains_own (l : List Int) (A : Option Addr) (n c : Nat) (w : World) (hn : l.length = n) (hr : Rd w w.heap.size A (Inode.intsV l)) (hm : n ≤ 1000000) :
    Calls Tryz.prog 196 #[.slice A n c, .func (.func 197) #[] #[]] w fun e w' => e = .returned (.bool (l.any badO)) ∧ Below w.heap.size w w' := by
  have HI := Lib.hid (index_own l A n c w hn hr hm _ rfl)
  generalize l.any badO = r at *
  clear hn hr
  go_enter Tryz.func196, Tryz.ntmps196
  go_wp2_with (go_at_call 214; (with_reducible refine HI.out.mono ?_); rintro e w2 ⟨⟨k, he, hk⟩, hbl⟩; obtain rfl := he; have HK := Lib.hid hk; have HB := Lib.hid hbl; clear hk hbl)
  go_ret
  exact ⟨ret_b HK.out.symm, HB.out⟩

set_option maxRecDepth 100000 in
set_option maxHeartbeats 1600000 in
theorem index_ino (l : List Inode.Ino) (ho : ∀ m ∈ l, Inode.Oki m) (A : Option Addr) (n c : Nat) (w : World) (hn : l.length = n) (hr : Rd w w.heap.size A (inosV l)) (hm : n ≤ 1000000) (r : Bool) (hr0 : l.any badI = r) :
    Calls Tryz.prog 86 #[.slice A n c, .func (.func 198) #[] #[]] w fun e w' => (∃ k : Int, e = .returned (.int .i64 k) ∧ decide (0 ≤ k) = r) ∧ Below w.heap.size w w' := by
  have Hn := Lib.hid hn
  have Hr := Lib.hid hr
  have Hb := Lib.hid hr0
  have HO := Lib.hid ho
  clear ho
  clear hn hr hr0
  go_enter Tryz.func86, Tryz.ntmps86
  go_wp2
  go_loopw [5, 8] (fun _ i wr => ∃ j : Nat, j ≤ n ∧ i = .int .i64 (j : Int) ∧ Hid (∀ (k : Nat) x, k < j → l[k]? = some x → badI x = false) ∧ Hid (Below w.heap.size w wr)) (fun _ i _ => n - (intOf i).toNat)
  case atStart => exact ⟨0, Nat.zero_le _, rfl, Lib.hid (fun k s hk => by omega), Lib.hid (Below.refl _ _)⟩
  case round =>
    obtain ⟨j, hj, rfl, Hf, HB⟩ := hrel
    by_cases hlt : j < n
    · obtain ⟨x, hx⟩ : ∃ x, l[j]? = some x := ⟨_, List.getElem?_eq_getElem (by rw [Hn.out]; exact hlt)⟩
      have hox := HO.out x (List.mem_of_getElem? hx)
      obtain ⟨b, o, hA, hb⟩ := rd_first Hr.out (by rw [length_inosV HO.out, Hn.out]; omega)
      subst hA
      have HAX := Lib.hid (rd_ino (Hr.out.below HB.out) HO.out hx)
      have HSX := Lib.hid (size_ino' x hox)
      have HCX : Hid (∀ u : World, Calls Tryz.prog 198 #[.agg (Inode.cellsI x).toArray] u fun e w' => e = .returned (.bool (badI x)) ∧ Below u.heap.size u w') := Lib.hid (fun u => ai1_any x hox u)
      clear hox
      generalize hcx : Inode.cellsI x = cx at *
      have HX := Lib.hid hx
      have hlti : (j : Int) < (n : Int) := by omega
      have hj0 : (0 : Int) ≤ (j : Int) := by omega
      clear hx
      cases hp : badI x with
      | false =>
        have Hnext : Hid (∀ (k : Nat) x, k < j + 1 → l[k]? = some x → badI x = false) := Lib.hid fun k y hk hy => by
          by_cases e : k = j
          · subst e
            rw [HX.out] at hy
            injection hy with hy
            rw [← hy]; exact hp
          · exact Hf.out k y (by omega) hy
        go_wp2_with (first | (refine wpList_load_mid rfl 40 (.tmp 14) rfl b (o + j * 14) rfl cx _ HAX.out Tryz.underlying40 rfl HSX.out ?_) | (go_at_call 198; (with_reducible refine (HCX.out _).mono ?_); rintro e w2 ⟨he, hbl⟩; rw [hp] at he; obtain rfl := he; have HB2 := Lib.hid (HB.out.trans (hbl.mono HB.out.size)); clear hbl))
        
        go_roundw
        case rel => exact ⟨j + 1, by omega, by go_num, Hnext, HB2⟩
        case measure => simp [intOf]; omega
      | true =>
        have hrt : Hid (r = true) := Lib.hid (by rw [← Hb.out]; exact List.any_eq_true.2 ⟨x, List.mem_of_getElem? HX.out, hp⟩)
        go_wp2_with (first | (refine wpList_load_mid rfl 40 (.tmp 14) rfl b (o + j * 14) rfl cx _ HAX.out Tryz.underlying40 rfl HSX.out ?_) | (go_at_call 198; (with_reducible refine (HCX.out _).mono ?_); rintro e w2 ⟨he, hbl⟩; rw [hp] at he; obtain rfl := he; have HB2 := Lib.hid (HB.out.trans (hbl.mono HB.out.size)); clear hbl))
        
        go_ret
        exact ⟨⟨(j : Int), rfl, by rw [hrt.out]; simp⟩, HB2.out⟩
    · obtain rfl : j = n := by omega
      have hrf : Hid (r = false) := Lib.hid (by
        rw [← Hb.out]
        refine List.any_eq_false.2 fun y hy => ?_
        obtain ⟨k, hk, rfl⟩ := List.getElem_of_mem hy
        rw [Hf.out k _ (by rw [← Hn.out]; exact hk) (List.getElem?_eq_getElem hk)]
        exact Bool.false_ne_true)
      go_wp2
      go_ret
      exact ⟨⟨-1, rfl, by rw [hrf.out]; rfl⟩, HB.out⟩
theorem contains_ino (l : List Inode.Ino) (ho : ∀ m ∈ l, Inode.Oki m) (A : Option Addr) (n c : Nat) (w : World) (hn : l.length = n) (hr : Rd w w.heap.size A (inosV l)) (hm : n ≤ 1000000) :
    Calls Tryz.prog 127 #[.slice A n c, .func (.func 198) #[] #[]] w fun e w' => e = .returned (.bool (l.any badI)) ∧ Below w.heap.size w w' := by
  have HI := Lib.hid (index_ino l ho A n c w hn hr hm _ rfl)
  generalize l.any badI = r at *
  clear hn hr
  go_enter Tryz.func127, Tryz.ntmps127
  go_wp2_with (go_at_call 86; (with_reducible refine HI.out.mono ?_); rintro e w2 ⟨⟨k, he, hk⟩, hbl⟩; obtain rfl := he; have HK := Lib.hid hk; have HB := Lib.hid hbl; clear hk hbl)
  go_ret
  exact ⟨ret_b HK.out.symm, HB.out⟩

set_option maxRecDepth 100000 in
set_option maxHeartbeats 1600000 in
theorem index_sec (l : List (List UInt8)) (L : List Sc) (A : Option Addr) (n c : Nat) (w : World) (hn : l.length = n) (hr : SecsAt w w.heap.size A L l) (hm : n ≤ 1000000) (r : Bool) (hr0 : l.any badS = r) :
    Calls Tryz.prog 209 #[.slice A n c, .func (.func 179) #[] #[]] w fun e w' => (∃ k : Int, e = .returned (.int .i64 k) ∧ decide (0 ≤ k) = r) ∧ Below w.heap.size w w' := by
  have Hn := Lib.hid hn
  have Hr := Lib.hid hr
  have Hb := Lib.hid hr0
  clear hn hr hr0
  go_enter Tryz.func209, Tryz.ntmps209
  go_wp2
  go_loopw [5, 8] (fun _ i wr => ∃ j : Nat, j ≤ n ∧ i = .int .i64 (j : Int) ∧ Hid (∀ (k : Nat) x, k < j → l[k]? = some x → badS x = false) ∧ Hid (Below w.heap.size w wr)) (fun _ i _ => n - (intOf i).toNat)
  case atStart => exact ⟨0, Nat.zero_le _, rfl, Lib.hid (fun k s hk => by omega), Lib.hid (Below.refl _ _)⟩
  case round =>
    obtain ⟨j, hj, rfl, Hf, HB⟩ := hrel
    by_cases hlt : j < n
    · obtain ⟨x, hx⟩ : ∃ x, l[j]? = some x := ⟨_, List.getElem?_eq_getElem (by rw [Hn.out]; exact hlt)⟩
      obtain ⟨b, o, hA, hb⟩ := Hr.out.first (by rw [Hn.out]; omega)
      subst hA
      obtain ⟨S, -, hcx, -, -, -⟩ := (Hr.out.below HB.out).get hx
      have HX := Lib.hid hx
      have hlti : (j : Int) < (n : Int) := by omega
      have hj0 : (0 : Int) ≤ (j : Int) := by omega
      clear hx
      cases hp : badS x with
      | false =>
        have Hnext : Hid (∀ (k : Nat) x, k < j + 1 → l[k]? = some x → badS x = false) := Lib.hid fun k y hk hy => by
          by_cases e : k = j
          · subst e
            rw [HX.out] at hy
            injection hy with hy
            rw [← hy]; exact hp
          · exact Hf.out k y (by omega) hy
        go_wp2_with (first | (go_at_call 179; (with_reducible refine (as1_any x _ _ _ rfl _).mono ?_); rintro e w2 ⟨he, hw⟩; subst hw; rw [hp] at he; obtain rfl := he))
        have HB2 := HB
        go_roundw
        case rel => exact ⟨j + 1, by omega, by go_num, Hnext, HB2⟩
        case measure => simp [intOf]; omega
      | true =>
        have hrt : Hid (r = true) := Lib.hid (by rw [← Hb.out]; exact List.any_eq_true.2 ⟨x, List.mem_of_getElem? HX.out, hp⟩)
        go_wp2_with (first | (go_at_call 179; (with_reducible refine (as1_any x _ _ _ rfl _).mono ?_); rintro e w2 ⟨he, hw⟩; subst hw; rw [hp] at he; obtain rfl := he))
        have HB2 := HB
        go_ret
        exact ⟨⟨(j : Int), rfl, by rw [hrt.out]; simp⟩, HB2.out⟩
    · obtain rfl : j = n := by omega
      have hrf : Hid (r = false) := Lib.hid (by
        rw [← Hb.out]
        refine List.any_eq_false.2 fun y hy => ?_
        obtain ⟨k, hk, rfl⟩ := List.getElem_of_mem hy
        rw [Hf.out k _ (by rw [← Hn.out]; exact hk) (List.getElem?_eq_getElem hk)]
        exact Bool.false_ne_true)
      go_wp2
      go_ret
      exact ⟨⟨-1, rfl, by rw [hrf.out]; rfl⟩, HB.out⟩
theorem contains_sec (l : List (List UInt8)) (L : List Sc) (A : Option Addr) (n c : Nat) (w : World) (hn : l.length = n) (hr : SecsAt w w.heap.size A L l) (hm : n ≤ 1000000) :
    Calls Tryz.prog 178 #[.slice A n c, .func (.func 179) #[] #[]] w fun e w' => e = .returned (.bool (l.any badS)) ∧ Below w.heap.size w w' := by
  have HI := Lib.hid (index_sec l L A n c w hn hr hm _ rfl)
  generalize l.any badS = r at *
  clear hn hr
  go_enter Tryz.func178, Tryz.ntmps178
  go_wp2_with (go_at_call 209; (with_reducible refine HI.out.mono ?_); rintro e w2 ⟨⟨k, he, hk⟩, hbl⟩; obtain rfl := he; have HK := Lib.hid hk; have HB := Lib.hid hbl; clear hk hbl)
  go_ret
  exact ⟨ret_b HK.out.symm, HB.out⟩

theorem geo_box (w : World) (j i g p : Int) : Bk (w.alloc (.cells #[.int .i64 j, .int .i64 i, .int .i64 g, .int .i64 p] 29)) w.heap.size 29 [.int .i64 j, .int .i64 i, .int .i64 g, .int .i64 p] := Bk.new w 29 [.int .i64 j, .int .i64 i, .int .i64 g, .int .i64 p]
theorem areown_any (j i g p : Int) (l : List Int) (A : Option Addr) (n c : Nat) (w : World) (hn : l.length = n) (hr : Rd w w.heap.size A (Inode.intsV l)) (hm : n ≤ 1000000) :
    Calls Tryz.prog 161 #[.agg #[.int .i64 j, .int .i64 i, .int .i64 g, .int .i64 p], .slice A n c] w fun e w' => e = .returned (.bool (((n : Int) == g) && !l.any badO)) ∧ Below w.heap.size w w' := by
  have hb := al_below w (.cells #[.int .i64 j, .int .i64 i, .int .i64 g, .int .i64 p] 29)
  have HC := Lib.hid (contains_own l A n c _ hn ((hr.below hb).more hb.size) hm)
  have HB := Lib.hid hb
  generalize l.any badO = r at *
  clear hr hb hn
  by_cases h : (n : Int) = g
  · have e : ((n : Int) == g) = true := by simp [h]
    rw [e]
    go_enter Tryz.func161, Tryz.ntmps161
    go_wp2_with (go_at_call 196; (with_reducible refine HC.out.mono ?_); rintro e w2 ⟨he, hbl⟩; obtain rfl := he; have HB2 := Lib.hid (HB.out.trans (hbl.mono HB.out.size)); clear hbl)
    go_ret
    exact ⟨rfl, HB2.out⟩
  · have e : ((n : Int) == g) = false := by simp [h]
    rw [e]
    clear h
    go_enter Tryz.func161, Tryz.ntmps161
    go_wp2
    go_ret
    exact ⟨rfl, HB.out⟩
theorem areino_any (j i g p : Int) (l : List Inode.Ino) (ho : ∀ m ∈ l, Inode.Oki m) (A : Option Addr) (n c : Nat) (w : World) (hn : l.length = n) (hr : Rd w w.heap.size A (inosV l)) (hm : n ≤ 1000000) :
    Calls Tryz.prog 163 #[.agg #[.int .i64 j, .int .i64 i, .int .i64 g, .int .i64 p], .slice A n c] w fun e w' => e = .returned (.bool (((n : Int) == i) && !l.any badI)) ∧ Below w.heap.size w w' := by
  have hb := al_below w (.cells #[.int .i64 j, .int .i64 i, .int .i64 g, .int .i64 p] 29)
  have HC := Lib.hid (contains_ino l ho A n c _ hn ((hr.below hb).more hb.size) hm)
  have HB := Lib.hid hb
  generalize l.any badI = r at *
  clear hr hb hn
  by_cases h : (n : Int) = i
  · have e : ((n : Int) == i) = true := by simp [h]
    rw [e]
    go_enter Tryz.func163, Tryz.ntmps163
    go_wp2_with (go_at_call 127; (with_reducible refine HC.out.mono ?_); rintro e w2 ⟨he, hbl⟩; obtain rfl := he; have HB2 := Lib.hid (HB.out.trans (hbl.mono HB.out.size)); clear hbl)
    go_ret
    exact ⟨rfl, HB2.out⟩
  · have e : ((n : Int) == i) = false := by simp [h]
    rw [e]
    clear h
    go_enter Tryz.func163, Tryz.ntmps163
    go_wp2
    go_ret
    exact ⟨rfl, HB.out⟩
/-- Whether a bit is 1 of a block that there is not. -/
def beyond (l : List UInt8) (x : Int) : Bool := (Bits.fst l x 512 true (8 * l.length)).isSome
theorem areused_any (j i g p : Int) (hgp0 : 0 ≤ g * p) (hgp : g * p ≤ 512) (l : List UInt8) (A : Option Addr) (n c : Nat) (w : World) (hn : l.length = n) (hr : Rd w w.heap.size A (bytesV l)) (hm : n ≤ 1000000) :
    Calls Tryz.prog 162 #[.agg #[.int .i64 j, .int .i64 i, .int .i64 g, .int .i64 p], .slice A n c] w fun e w' => e = .returned (.bool (((n : Int) == 64) && !beyond l (g * p))) ∧ Below w.heap.size w w' := by
  have hb := al_below w (.cells #[.int .i64 j, .int .i64 i, .int .i64 g, .int .i64 p] 29)
  obtain ⟨k, hk⟩ : ∃ k : Int, Bits.fstV (Bits.fst l (g * p) 512 true (8 * l.length)) = .tuple #[.int .i64 k, .bool (beyond l (g * p))] := by
    unfold beyond
    cases Bits.fst l (g * p) 512 true (8 * l.length) with
    | none => exact ⟨_, rfl⟩
    | some q => exact ⟨_, rfl⟩
  have HC := Lib.hid (Bits.first_any l A n c w.heap.size (g * p) 512 true _ hn (hr.below hb) (by omega) (by omega))
  rw [hk] at HC
  have HB := Lib.hid hb
  have hgw : IntKind.i64.wrap (g * p) = g * p := by rw [IntKind.wrap_i64]; omega
  generalize beyond l (g * p) = r at *
  clear hr hb hn hk
  by_cases h : n = 64
  · subst h
    go_enter Tryz.func162, Tryz.ntmps162
    go_wp2_with (go_at_call 142; (with_reducible refine HC.out.mono ?_); rintro e w2 ⟨he, q, hw⟩; obtain rfl := he; have HB2 := Lib.hid (by rw [hw]; exact Inode.below_drewN HB.out q : Below w.heap.size w w2); clear hw)
    go_ret
    exact ⟨rfl, HB2.out⟩
  · have e : ((n : Int) == 64) = false := by simp; omega
    rw [e]
    clear h
    go_enter Tryz.func162, Tryz.ntmps162
    go_wp2_with (go_at_call 142; (with_reducible refine HC.out.mono ?_); rintro e w2 ⟨he, q, hw⟩; obtain rfl := he; have HB2 := Lib.hid (by rw [hw]; exact Inode.below_drewN HB.out q : Below w.heap.size w w2); clear hw)
    go_ret
    exact ⟨rfl, HB2.out⟩
end Go.Proofs.YtcjkbmmjpkghlaaGreat.Meta
