/-
  Package intern's small functions: whether a row is free, whether it fits, the function that looks for a label, and the library's search.
-/
import Derived.Test.YtdecllllcoflbaaA
import Derived.Test.YtdecllllcoflbaaW0
namespace Go.Proofs.Ytdecllllcoflbaa.Intern
open Go.RowKit

theorem below_drewN {B : Nat} {a w : World} (h : Below B a w) (q : Nat) : Below B a (w.drewN q) := ⟨h.os, h.tape, h.output, h.size, h.block⟩
/-- The block of a row that was boxed. -/
def rowB (a : Nat) (x : Int) : Obj := .cells #[.int .u16 (a : Int), .int .i64 x] 37
theorem alloc_below (w : World) (o : Obj) : Below w.heap.size w (w.alloc o) := (Below.refl _ w).alloc (Nat.le_refl _) _

theorem isFree_any (a : Nat) (x : Int) (w : World) :
    Calls Try.prog 28 #[.agg #[.int .u16 (a : Int), .int .i64 x]] w fun e w' => e = .returned (.bool (x == 0)) ∧ w' = w.alloc (.cells #[.int .u16 (a : Int), .int .i64 x] 37) := by
  go_enter Try.func28, Try.ntmps28
  go_wp2
  go_ret
  exact ⟨rfl, rfl⟩

theorem ret_bool {a b : Bool} (h : a = b) : Ending.returned (.bool a) = .returned (.bool b) := by rw [h]
theorem ret_int {a b : Int} (h : a = b) : Ending.returned (.int .i64 a) = .returned (.int .i64 b) := by rw [h]
theorem beq_cast (a b : Nat) : ((a : Int) == (b : Int)) = (a == b) := by
  rw [Bool.eq_iff_iff, beq_iff_eq, beq_iff_eq]; omega

theorem fits_row (a : Nat) (x : Int) (w : World) :
    Calls Try.prog 29 #[.agg #[.int .u16 (a : Int), .int .i64 x]] w fun e w' => e = .returned (.bool (fits ⟨a, x⟩)) ∧ Below w.heap.size w w' := by
  have hB : Below w.heap.size w ((w.alloc (.cells #[.int .u16 (a : Int), .int .i64 x] 37)).alloc (.cells #[.int .u16 (a : Int), .int .i64 x] 37)) := (alloc_below w _).alloc (by simp) _
  have HB := Lib.hid hB
  clear hB
  by_cases h0 : x = 0
  · subst h0
    have hb : ((0 : Int) == 0) = true := rfl
    go_enter Try.func29, Try.ntmps29
    go_wp2_with (go_at_call 28; refine (isFree_any a 0 _).mono ?_; rintro e w' ⟨rfl, rfl⟩)
    go_ret
    exact ⟨ret_bool (by unfold fits; exact beq_cast a 0), HB.out⟩
  · have hb : (x == 0) = false := by simp [h0]
    by_cases h1 : 0 < x
    · go_enter Try.func29, Try.ntmps29
      go_wp2_with (go_at_call 28; refine (isFree_any a x _).mono ?_; rintro e w' ⟨rfl, rfl⟩)
      go_ret
      exact ⟨ret_bool (by unfold fits; simp [h0, h1]), HB.out⟩
    · go_enter Try.func29, Try.ntmps29
      go_wp2_with (go_at_call 28; refine (isFree_any a x _).mono ?_; rintro e w' ⟨rfl, rfl⟩)
      go_ret
      exact ⟨ret_bool (by unfold fits; simp [h0]; omega), HB.out⟩

theorem has_any (a : Nat) (w : World) :
    Calls Try.prog 26 #[.int .u16 (a : Int)] w fun e w' => e = .returned (.func (.func 34) #[] #[.pointer (some ⟨w.heap.size, 0, none⟩)]) ∧ w' = w.alloc (.cells #[.int .u16 (a : Int)] 24) := by
  go_enter Try.func26, Try.ntmps26
  go_wp2
  go_ret
  exact ⟨rfl, rfl⟩

theorem hasL_any (a b : Nat) (x : Int) (g : Nat) (w : World) (hc : w.cell? ⟨g, 0, none⟩ = some (.int .u16 (a : Int))) (hg : g < w.heap.size) :
    Calls Try.prog 34 #[.agg #[.int .u16 (b : Int), .int .i64 x], .pointer (some ⟨g, 0, none⟩)] w fun e w' => e = .returned (.bool (hasL a ⟨b, x⟩)) ∧ Below w.heap.size w w' := by
  have hB : Below w.heap.size w ((w.alloc (.cells #[.int .u16 (b : Int), .int .i64 x] 37)).alloc (.cells #[.int .u16 (b : Int), .int .i64 x] 37)) := (alloc_below w _).alloc (by simp) _
  have HB := Lib.hid hB
  clear hB
  by_cases h0 : x = 0
  · subst h0
    have hb : ((0 : Int) == 0) = true := rfl
    go_enter Try.func34, Try.ntmps34
    go_wp2_with (go_at_call 28; refine (isFree_any b 0 _).mono ?_; rintro e w' ⟨rfl, rfl⟩)
    go_ret
    exact ⟨rfl, HB.out⟩
  · have hb : (x == 0) = false := by simp [h0]
    go_enter Try.func34, Try.ntmps34
    go_wp2_with (go_at_call 28; refine (isFree_any b x _).mono ?_; rintro e w' ⟨rfl, rfl⟩)
    go_ret
    exact ⟨ret_bool (by unfold hasL; rw [beq_cast]; simp [h0]), HB.out⟩

/-- A place as an int: -1 where there is none. -/
def placeI : Option Nat → Int
  | none => -1
  | some i => (i : Int)

set_option maxHeartbeats 400000 in
theorem index_has (l : List Rw) (A : Option Addr) (n c : Nat) (w : World) (a g : Nat) (hc : w.cell? ⟨g, 0, none⟩ = some (.int .u16 (a : Int))) (hg : g < w.heap.size) (hn : l.length = n) (hr : Rd w w.heap.size A (rowsV l)) (hm : n ≤ 9223372036854775807) :
    Calls Try.prog 25 #[.slice A n c, .func (.func 34) #[] #[.pointer (some ⟨g, 0, none⟩)]] w fun e w' => e = .returned (.int .i64 (placeI (l.findIdx? (hasL a)))) ∧ Below w.heap.size w w' := by
  have Hn := Lib.hid hn
  have Hr := Lib.hid hr
  clear hn hr
  have HC := Lib.hid hc
  clear hc
  go_enter Try.func25, Try.ntmps25
  go_wp2
  go_loopw [5, 8] (fun _ i wr => ∃ j : Nat, j ≤ n ∧ i = .int .i64 (j : Int) ∧ Hid (∀ (k : Nat) s, k < j → l[k]? = some s → hasL a s = false) ∧ Below w.heap.size w wr) (fun _ i _ => n - (intOf i).toNat)
  case atStart => exact ⟨0, Nat.zero_le _, rfl, Lib.hid (fun k s hk => by omega), Below.refl _ _⟩
  case round =>
    obtain ⟨j, hj, rfl, Hf, hb⟩ := hrel
    have Hb := Lib.hid hb
    clear hb
    by_cases hlt : j < n
    · obtain ⟨⟨b, x⟩, hrj⟩ : ∃ r, l[j]? = some r := ⟨_, List.getElem?_eq_getElem (by rw [Hn.out]; exact hlt)⟩
      obtain ⟨B, o, rfl, hB, hc0, hc1⟩ := rd_row (Hr.out.below Hb.out) hrj
      have HR := Lib.hid hrj
      have hs := Nat.lt_of_lt_of_le hB Hb.out.size
      clear hrj hB
      cases hp : hasL a ⟨b, x⟩ with
      | false =>
        have Hnext : Hid (∀ (k : Nat) s, k < j + 1 → l[k]? = some s → hasL a s = false) := Lib.hid fun k s hk hs => by
          by_cases e : k = j
          · subst e
            rw [HR.out] at hs
            injection hs with hs
            rw [← hs]; exact hp
          · exact Hf.out k s (by omega) hs
        have hq : hasL a ⟨b, x⟩ = false := hp
        clear hp
        go_wp2_with (go_at_call 34; refine (hasL_any a _ _ g _ ((Hb.out.cell hg).trans HC.out) (Nat.lt_of_lt_of_le hg Hb.out.size)).mono ?_; rintro e w2 ⟨he, hb2⟩; obtain rfl := he; have HB2 := Lib.hid (Hb.out.trans (hb2.mono Hb.out.size)); clear hb2; rw [hq])
        go_roundw
        case rel => exact ⟨j + 1, by omega, by go_num, Hnext, HB2.out⟩
        case measure => simp [intOf]; omega
      | true =>
        have hd : l.findIdx? (hasL a) = some j := by
          obtain ⟨hjl, hjr⟩ := List.getElem?_eq_some_iff.1 HR.out
          refine List.findIdx?_eq_some_iff_getElem.2 ⟨hjl, by rw [hjr]; exact hp, fun k hk => ?_⟩
          have := Hf.out k _ hk (List.getElem?_eq_getElem (by omega))
          simp [this]
        have HD := Lib.hid hd
        have hq : hasL a ⟨b, x⟩ = true := hp
        clear hp hd
        go_wp2_with (go_at_call 34; refine (hasL_any a _ _ g _ ((Hb.out.cell hg).trans HC.out) (Nat.lt_of_lt_of_le hg Hb.out.size)).mono ?_; rintro e w2 ⟨he, hb2⟩; obtain rfl := he; have HB2 := Lib.hid (Hb.out.trans (hb2.mono Hb.out.size)); clear hb2; rw [hq])
        go_ret
        exact ⟨ret_int (by rw [HD.out]; rfl), HB2.out⟩
    · obtain rfl : j = n := by omega
      have hd : l.findIdx? (hasL a) = none := by
        refine List.findIdx?_eq_none_iff.2 fun x hx => ?_
        obtain ⟨k, hk, rfl⟩ := List.getElem_of_mem hx
        exact Hf.out k _ (by rw [← Hn.out]; exact hk) (List.getElem?_eq_getElem hk)
      have HD := Lib.hid hd
      clear hd
      go_wp2
      go_ret
      exact ⟨ret_int (by rw [HD.out]; rfl), Hb.out⟩

set_option maxHeartbeats 400000 in
theorem index_free (l : List Rw) (A : Option Addr) (n c : Nat) (w : World) (hn : l.length = n) (hr : Rd w w.heap.size A (rowsV l)) (hm : n ≤ 9223372036854775807) :
    Calls Try.prog 25 #[.slice A n c, .func (.func 28) #[] #[]] w fun e w' => e = .returned (.int .i64 (placeI (l.findIdx? (free)))) ∧ Below w.heap.size w w' := by
  have Hn := Lib.hid hn
  have Hr := Lib.hid hr
  clear hn hr
  go_enter Try.func25, Try.ntmps25
  go_wp2
  go_loopw [5, 8] (fun _ i wr => ∃ j : Nat, j ≤ n ∧ i = .int .i64 (j : Int) ∧ Hid (∀ (k : Nat) s, k < j → l[k]? = some s → free s = false) ∧ Below w.heap.size w wr) (fun _ i _ => n - (intOf i).toNat)
  case atStart => exact ⟨0, Nat.zero_le _, rfl, Lib.hid (fun k s hk => by omega), Below.refl _ _⟩
  case round =>
    obtain ⟨j, hj, rfl, Hf, hb⟩ := hrel
    have Hb := Lib.hid hb
    clear hb
    by_cases hlt : j < n
    · obtain ⟨⟨b, x⟩, hrj⟩ : ∃ r, l[j]? = some r := ⟨_, List.getElem?_eq_getElem (by rw [Hn.out]; exact hlt)⟩
      obtain ⟨B, o, rfl, hB, hc0, hc1⟩ := rd_row (Hr.out.below Hb.out) hrj
      have HR := Lib.hid hrj
      have hs := Nat.lt_of_lt_of_le hB Hb.out.size
      clear hrj hB
      cases hp : free ⟨b, x⟩ with
      | false =>
        have Hnext : Hid (∀ (k : Nat) s, k < j + 1 → l[k]? = some s → free s = false) := Lib.hid fun k s hk hs => by
          by_cases e : k = j
          · subst e
            rw [HR.out] at hs
            injection hs with hs
            rw [← hs]; exact hp
          · exact Hf.out k s (by omega) hs
        have hq : (x == 0) = false := hp
        clear hp
        go_wp2_with (go_at_call 28; refine (isFree_any _ _ _).mono ?_; rintro e w2 ⟨he, hw2⟩; obtain rfl := he; have HB2 := Lib.hid (by rw [hw2]; exact Hb.out.alloc Hb.out.size _ : Below w.heap.size w w2); clear hw2; rw [hq])
        go_roundw
        case rel => exact ⟨j + 1, by omega, by go_num, Hnext, HB2.out⟩
        case measure => simp [intOf]; omega
      | true =>
        have hd : l.findIdx? (free) = some j := by
          obtain ⟨hjl, hjr⟩ := List.getElem?_eq_some_iff.1 HR.out
          refine List.findIdx?_eq_some_iff_getElem.2 ⟨hjl, by rw [hjr]; exact hp, fun k hk => ?_⟩
          have := Hf.out k _ hk (List.getElem?_eq_getElem (by omega))
          simp [this]
        have HD := Lib.hid hd
        have hq : (x == 0) = true := hp
        clear hp hd
        go_wp2_with (go_at_call 28; refine (isFree_any _ _ _).mono ?_; rintro e w2 ⟨he, hw2⟩; obtain rfl := he; have HB2 := Lib.hid (by rw [hw2]; exact Hb.out.alloc Hb.out.size _ : Below w.heap.size w w2); clear hw2; rw [hq])
        go_ret
        exact ⟨ret_int (by rw [HD.out]; rfl), HB2.out⟩
    · obtain rfl : j = n := by omega
      have hd : l.findIdx? (free) = none := by
        refine List.findIdx?_eq_none_iff.2 fun x hx => ?_
        obtain ⟨k, hk, rfl⟩ := List.getElem_of_mem hx
        exact Hf.out k _ (by rw [← Hn.out]; exact hk) (List.getElem?_eq_getElem hk)
      have HD := Lib.hid hd
      clear hd
      go_wp2
      go_ret
      exact ⟨ret_int (by rw [HD.out]; rfl), Hb.out⟩
end Go.Proofs.Ytdecllllcoflbaa.Intern
