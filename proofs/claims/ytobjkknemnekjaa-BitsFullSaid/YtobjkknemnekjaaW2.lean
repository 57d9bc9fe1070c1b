/-
  Package bits' Count and First, and the document's own: what each call returns.
-/
import Derived.Test.YtobjkknemnekjaaW0
namespace Go.Proofs.Ytobjkknemnekjaa
open Go.RowKit

theorem ret_int {a b : Int} (h : a = b) : Ending.returned (.int .i64 a) = .returned (.int .i64 b) := by rw [h]
/-- What First hands back. -/
def fstV (o : Option Nat) : Value := .tuple #[.int .i64 ((o.getD 0 : Nat) : Int), .bool o.isSome]
theorem drew2 {w w' : World} {a : Nat} (h : ∃ m, w' = (w.drewN a).drewN m) : ∃ m, w' = w.drewN m := by
  obtain ⟨m, rfl⟩ := h
  exact ⟨a + m, by rw [World.drewN_drewN]⟩
theorem drew_nil (w : World) : ∃ m, w = w.drewN m := ⟨0, rfl⟩

theorem count_none (A : Option Addr) (n c F T : Nat) (x y : Int) (w : World) (hm : n ≤ 100000000) (hE : Ends x y n F T) (hF : T ≤ F) (hF2 : F ≤ 9223372036854775807) :
    Calls Try.prog 17 #[.slice A n c, .int .i64 x, .int .i64 y] w fun e w' => e = .returned (.int .i64 0) ∧ w = w' := by
  have htop := hE.top
  have HE := Lib.hid hE
  clear hE
  go_enter Try.func17, Try.ntmps17
  go_wp2_with (go_at_call 26; refine (clip_any _ _ _ _ _ F T _ hm HE.out).mono ?_; rintro e w' ⟨rfl, rfl⟩)
  go_loop [7, 19] (fun v k => v = .int .i64 0 ∧ k = .int .i64 0) (fun _ _ => 0)
  case atStart => exact ⟨rfl, rfl⟩
  case round =>
    obtain ⟨rfl, rfl⟩ := hrel
    go_wp2
    go_ret
    exact ⟨rfl, rfl⟩
set_option maxHeartbeats 800000 in
theorem count_some (l : List UInt8) (A : Option Addr) (n c B F T : Nat) (x y : Int) (w : World) (hn : l.length = n) (hr : Rd w B A (bytesV l)) (hm : n ≤ 100000000) (hE : Ends x y n F T) (hF : F < T) :
    Calls Try.prog 17 #[.slice A n c, .int .i64 x, .int .i64 y] w fun e w' => e = .returned (.int .i64 (cnt l x y T : Nat)) ∧ ∃ m, w' = w.drewN m := by
  have htop := hE.top
  have Hn := Lib.hid hn
  have Hr := Lib.hid hr
  have HS := Lib.hid (hE.cnt_start (l := l))
  have HM := Lib.hid (fun i => hE.mid (l := l) (i := i) (on := true))
  have HE := Lib.hid hE
  clear hn hr hE
  go_enter Try.func17, Try.ntmps17
  go_wp2_with (go_at_call 26; refine (clip_any _ _ _ _ _ F T _ hm HE.out).mono ?_; rintro e w' ⟨rfl, rfl⟩)
  go_loopw [7, 19] (fun v k wr => ∃ j : Nat, F + j ≤ T ∧ k = .int .i64 (j : Int) ∧ ∃ q : Nat, v = .int .i64 (q : Int) ∧ Hid (q = cnt l x y (F + j)) ∧ ∃ m, wr = w.drewN m) (fun _ k _ => T - F - (intOf k).toNat)
  case atStart => exact ⟨0, by omega, rfl, 0, rfl, Lib.hid HS.out.symm, drew_nil w⟩
  case round =>
    obtain ⟨j, hj, rfl, q, rfl, Hq, m, rfl⟩ := hrel
    have hq := cnt_le l x y (F + j)
    rw [← Hq.out] at hq
    by_cases hlt : F + j < T
    · have hc := HM.out (F + j) (by omega) hlt
      have hX : hbI l ((F : Int) + (j : Int)) = hb l (F + j) := by
        rw [← hbI_nat]; congr 1
      cases hb' : hb l (F + j) with
      | false =>
        rw [hb'] at hX hc
        have Hno := Lib.hid (cnt_no hc)
        have HX := Lib.hid hX
        clear hc hX hb'
        go_wp2_with (go_at_call 13; refine (has_any l A n c _ _ _ Hn.out (Hr.out.drewN m) hm).mono ?_; rintro e w' ⟨rfl, m2, rfl⟩; rw [HX.out, World.drewN_drewN])
        go_roundw
        case rel => exact ⟨j + 1, by omega, by go_num, q, rfl, Lib.hid (by rw [← Nat.add_assoc, Hno.out, Hq.out]), _, rfl⟩
        case measure => simp [intOf]; omega
      | true =>
        rw [hb'] at hX hc
        have Hyes := Lib.hid (cnt_yes hc)
        have HX := Lib.hid hX
        clear hc hX hb'
        go_wp2_with (go_at_call 13; refine (has_any l A n c _ _ _ Hn.out (Hr.out.drewN m) hm).mono ?_; rintro e w' ⟨rfl, m2, rfl⟩; rw [HX.out, World.drewN_drewN])
        go_roundw
        case rel => exact ⟨j + 1, by omega, by go_num, q + 1, by go_num, Lib.hid (by rw [← Nat.add_assoc, Hyes.out, Hq.out]), _, rfl⟩
        case measure => simp [intOf]; omega
    · obtain rfl : T = F + j := by omega
      go_wp2
      go_ret
      exact ⟨ret_int (by rw [Hq.out]), m, rfl⟩
theorem count_any (l : List UInt8) (A : Option Addr) (n c : Nat) (B : Nat) (x y : Int) (w : World) (hn : l.length = n) (hr : Rd w B A (bytesV l)) (hm : n ≤ 100000000) (hx : x ≤ 9223372036854775807) :
    Calls Try.prog 17 #[.slice A n c, .int .i64 x, .int .i64 y] w fun e w' => e = .returned (.int .i64 (cnt l x y (8 * l.length) : Nat)) ∧ ∃ m, w' = w.drewN m := by
  obtain ⟨F, T, hE⟩ := ends_exist x y n
  by_cases h : T ≤ F
  · rw [hE.cnt_none hn h]
    exact (count_none A n c F T x y w hm hE h (by have := hE.lo; omega)).mono fun e w' ⟨h1, h2⟩ => ⟨h1, h2 ▸ drew_nil w⟩
  · rw [hE.cnt_done hn]
    exact count_some l A n c B F T x y w hn hr hm hE (by omega)

theorem cnd_lo {l : List UInt8} {x y : Int} {on : Bool} {j : Nat} (h : ¬ (x ≤ (j : Int))) : cnd l x y on j = false := by simp [cnd, decide_eq_false h]
theorem cnd_hi {l : List UInt8} {x y : Int} {on : Bool} {j : Nat} (h : ¬ ((j : Int) < y)) : cnd l x y on j = false := by simp [cnd, decide_eq_false h]
theorem cnd_in {l : List UInt8} {x y : Int} {on : Bool} {j : Nat} (h1 : x ≤ (j : Int)) (h2 : (j : Int) < y) : cnd l x y on j = (hb l j == on) := by simp [cnd, decide_eq_true h1, decide_eq_true h2]

set_option maxHeartbeats 800000 in
theorem rcount_any (l : List UInt8) (A : Option Addr) (n c : Nat) (B : Nat) (x y : Int) (w : World) (hn : l.length = n) (hr : Rd w B A (bytesV l)) (hm : n ≤ 100000000) :
    Calls Try.prog 18 #[.slice A n c, .int .i64 x, .int .i64 y] w fun e w' => e = .returned (.int .i64 (cnt l x y (8 * l.length) : Nat)) ∧ w = w' := by
  have Hn := Lib.hid hn
  have Hr := Lib.hid hr
  clear hn hr
  go_enter Try.func18, Try.ntmps18
  go_wp2
  go_loop [7, 8] (fun v k => ∃ j : Nat, j ≤ 8 * n ∧ k = .int .i64 (j : Int) ∧ ∃ q : Nat, v = .int .i64 (q : Int) ∧ Hid (q = cnt l x y j)) (fun _ k => 8 * n - (intOf k).toNat)
  case atStart => exact ⟨0, by omega, rfl, 0, rfl, Lib.hid rfl⟩
  case round =>
    obtain ⟨j, hj, rfl, q, rfl, Hq⟩ := hrel
    have hq := cnt_le l x y j
    rw [← Hq.out] at hq
    by_cases hlt : j < 8 * n
    · by_cases h1 : x ≤ (j : Int)
      · by_cases h2 : (j : Int) < y
        · have hc := cnd_in (l := l) (on := true) h1 h2
          have hX : hbI l (j : Int) = hb l j := hbI_nat l j
          cases hb' : hb l j with
          | false =>
            rw [hb'] at hX hc
            have Hno := Lib.hid (cnt_no hc)
            have HX := Lib.hid hX
            clear hc hX hb'
            go_wp2_with (go_at_call 14; refine (rhas_any l A n c _ _ _ Hn.out Hr.out hm).mono ?_; rintro e w' ⟨rfl, rfl⟩; rw [HX.out])
            go_round
            case rel => exact ⟨j + 1, by omega, by go_num, q, rfl, Lib.hid (by rw [Hno.out, Hq.out])⟩
            case measure => simp [intOf]; omega
          | true =>
            rw [hb'] at hX hc
            have Hyes := Lib.hid (cnt_yes hc)
            have HX := Lib.hid hX
            clear hc hX hb'
            go_wp2_with (go_at_call 14; refine (rhas_any l A n c _ _ _ Hn.out Hr.out hm).mono ?_; rintro e w' ⟨rfl, rfl⟩; rw [HX.out])
            go_round
            case rel => exact ⟨j + 1, by omega, by go_num, q + 1, by go_num, Lib.hid (by rw [Hyes.out, Hq.out])⟩
            case measure => simp [intOf]; omega
        · have Hno := Lib.hid (cnt_no (cnd_hi (l := l) (x := x) (on := true) h2))
          go_wp2
          go_round
          case rel => exact ⟨j + 1, by omega, by go_num, q, rfl, Lib.hid (by rw [Hno.out, Hq.out])⟩
          case measure => simp [intOf]; omega
      · have Hno := Lib.hid (cnt_no (cnd_lo (l := l) (y := y) (on := true) h1))
        go_wp2
        go_round
        case rel => exact ⟨j + 1, by omega, by go_num, q, rfl, Lib.hid (by rw [Hno.out, Hq.out])⟩
        case measure => simp [intOf]; omega
    · obtain rfl : j = 8 * n := by omega
      go_wp2
      go_ret
      exact ⟨ret_int (by rw [Hq.out, Hn.out]), rfl⟩

theorem first_none (A : Option Addr) (n c F T : Nat) (x y : Int) (on : Bool) (w : World) (hm : n ≤ 100000000) (hE : Ends x y n F T) (hF : T ≤ F) (hF2 : F ≤ 9223372036854775807) :
    Calls Try.prog 15 #[.slice A n c, .int .i64 x, .int .i64 y, .bool on] w fun e w' => e = .returned (fstV none) ∧ w = w' := by
  have htop := hE.top
  have HE := Lib.hid hE
  clear hE
  go_enter Try.func15, Try.ntmps15
  go_wp2_with (go_at_call 26; refine (clip_any _ _ _ _ _ F T _ hm HE.out).mono ?_; rintro e w' ⟨rfl, rfl⟩)
  go_loop [21] (fun k => k = .int .i64 0) (fun _ => 0)
  case atStart => rfl
  case round =>
    obtain rfl := hrel
    go_wp2
    go_ret2
    exact ⟨rfl, rfl⟩
set_option maxHeartbeats 800000 in
theorem first_some (l : List UInt8) (A : Option Addr) (n c B F T : Nat) (x y : Int) (on : Bool) (w : World) (hn : l.length = n) (hr : Rd w B A (bytesV l)) (hm : n ≤ 100000000) (hE : Ends x y n F T) (hF : F < T) :
    Calls Try.prog 15 #[.slice A n c, .int .i64 x, .int .i64 y, .bool on] w fun e w' => e = .returned (fstV (fst l x y on (8 * l.length))) ∧ ∃ m, w' = w.drewN m := by
  have htop := hE.top
  have Hn := Lib.hid hn
  have Hr := Lib.hid hr
  have HS := Lib.hid (fun k (h1 : F ≤ k) (h2 : k < T) (h3 : ∀ i, F ≤ i → i < k → (hb l i == on) = false) (h4 : (hb l k == on) = true) => hE.fst_some (l := l) (on := on) hn h1 h2 h3 h4)
  have HZ := Lib.hid (fun (h3 : ∀ i, F ≤ i → i < T → (hb l i == on) = false) => hE.fst_none (l := l) (on := on) hn h3)
  have HE := Lib.hid hE
  clear hn hr hE
  go_enter Try.func15, Try.ntmps15
  go_wp2_with (go_at_call 26; refine (clip_any _ _ _ _ _ F T _ hm HE.out).mono ?_; rintro e w' ⟨rfl, rfl⟩)
  go_loopw [21] (fun k wr => ∃ j : Nat, F + j ≤ T ∧ k = .int .i64 (j : Int) ∧ Hid (∀ i, F ≤ i → i < F + j → (hb l i == on) = false) ∧ ∃ m, wr = w.drewN m) (fun k _ => T - F - (intOf k).toNat)
  case atStart => exact ⟨0, by omega, rfl, Lib.hid (fun i h1 h2 => by omega), drew_nil w⟩
  case round =>
    obtain ⟨j, hj, rfl, Hq, m, rfl⟩ := hrel
    by_cases hlt : F + j < T
    · have hX : hbI l ((F : Int) + (j : Int)) = hb l (F + j) := by
        rw [← hbI_nat]; congr 1
      cases hb' : (hb l (F + j) == on) with
      | false =>
        have Hnext : Hid (∀ i, F ≤ i → i < F + (j + 1) → (hb l i == on) = false) := Lib.hid fun i h1 h2 => by
          by_cases h3 : i = F + j
          · rw [h3]; exact hb'
          · exact Hq.out i h1 (by omega)
        rw [← hX] at hb'
        clear hX
        go_wp2_with (go_at_call 13; refine (has_any l A n c _ _ _ Hn.out (Hr.out.drewN m) hm).mono ?_; rintro e w' ⟨rfl, m2, rfl⟩; rw [World.drewN_drewN])
        go_roundw
        case rel => exact ⟨j + 1, by omega, by go_num, Hnext, _, rfl⟩
        case measure => simp [intOf]; omega
      | true =>
        have HR := Lib.hid (HS.out (F + j) (by omega) hlt Hq.out hb')
        rw [← hX] at hb'
        clear hX
        go_wp2_with (go_at_call 13; refine (has_any l A n c _ _ _ Hn.out (Hr.out.drewN m) hm).mono ?_; rintro e w' ⟨rfl, m2, rfl⟩; rw [World.drewN_drewN])
        go_ret2
        exact ⟨by rw [HR.out]; simp [fstV], _, rfl⟩
    · obtain rfl : T = F + j := by omega
      have HR := Lib.hid (HZ.out Hq.out)
      go_wp2
      go_ret2
      exact ⟨by rw [HR.out]; rfl, m, rfl⟩
theorem first_any (l : List UInt8) (A : Option Addr) (n c : Nat) (B : Nat) (x y : Int) (on : Bool) (w : World) (hn : l.length = n) (hr : Rd w B A (bytesV l)) (hm : n ≤ 100000000) (hx : x ≤ 9223372036854775807) :
    Calls Try.prog 15 #[.slice A n c, .int .i64 x, .int .i64 y, .bool on] w fun e w' => e = .returned (fstV (fst l x y on (8 * l.length))) ∧ ∃ m, w' = w.drewN m := by
  obtain ⟨F, T, hE⟩ := ends_exist x y n
  by_cases h : T ≤ F
  · rw [hE.fst_none hn (fun i h1 h2 => by omega)]
    exact (first_none A n c F T x y on w hm hE h (by have := hE.lo; omega)).mono fun e w' ⟨h1, h2⟩ => ⟨h1, h2 ▸ drew_nil w⟩
  · exact first_some l A n c B F T x y on w hn hr hm hE (by omega)

set_option maxHeartbeats 800000 in
theorem rfirst_any (l : List UInt8) (A : Option Addr) (n c : Nat) (B : Nat) (x y : Int) (on : Bool) (w : World) (hn : l.length = n) (hr : Rd w B A (bytesV l)) (hm : n ≤ 100000000) :
    Calls Try.prog 16 #[.slice A n c, .int .i64 x, .int .i64 y, .bool on] w fun e w' => e = .returned (fstV (fst l x y on (8 * l.length))) ∧ w = w' := by
  have Hn := Lib.hid hn
  have Hr := Lib.hid hr
  clear hn hr
  go_enter Try.func16, Try.ntmps16
  go_wp2
  go_loop [10] (fun k => ∃ j : Nat, j ≤ 8 * n ∧ k = .int .i64 (j : Int) ∧ Hid (∀ i, i < j → cnd l x y on i = false)) (fun k => 8 * n - (intOf k).toNat)
  case atStart => exact ⟨0, by omega, rfl, Lib.hid (fun i h => by omega)⟩
  case round =>
    obtain ⟨j, hj, rfl, Hq⟩ := hrel
    by_cases hlt : j < 8 * n
    · have Hnext : Hid (cnd l x y on j = false → ∀ i, i < j + 1 → cnd l x y on i = false) := Lib.hid fun hc i h2 => by
        by_cases h3 : i = j
        · rw [h3]; exact hc
        · exact Hq.out i (by omega)
      by_cases h1 : x ≤ (j : Int)
      · by_cases h2 : (j : Int) < y
        · have hc := cnd_in (l := l) (on := on) h1 h2
          have hX : hbI l (j : Int) = hb l j := hbI_nat l j
          cases hb' : (hb l j == on) with
          | false =>
            rw [hb'] at hc
            have Hno := Lib.hid hc
            rw [← hX] at hb'
            clear hc hX
            go_wp2_with (go_at_call 14; refine (rhas_any l A n c _ _ _ Hn.out Hr.out hm).mono ?_; rintro e w' ⟨rfl, rfl⟩)
            go_round
            case rel => exact ⟨j + 1, by omega, by go_num, Lib.hid (Hnext.out Hno.out)⟩
            case measure => simp [intOf]; omega
          | true =>
            rw [hb'] at hc
            have HR := Lib.hid (fst_yes (j := 8 * l.length) (by rw [Hn.out]; exact hlt) Hq.out hc)
            rw [← hX] at hb'
            clear hc hX
            go_wp2_with (go_at_call 14; refine (rhas_any l A n c _ _ _ Hn.out Hr.out hm).mono ?_; rintro e w' ⟨rfl, rfl⟩)
            go_ret2
            exact ⟨by rw [HR.out]; simp [fstV], rfl⟩
        · have Hno := Lib.hid (cnd_hi (l := l) (x := x) (on := on) h2)
          go_wp2
          go_round
          case rel => exact ⟨j + 1, by omega, by go_num, Lib.hid (Hnext.out Hno.out)⟩
          case measure => simp [intOf]; omega
      · have Hno := Lib.hid (cnd_lo (l := l) (y := y) (on := on) h1)
        go_wp2
        go_round
        case rel => exact ⟨j + 1, by omega, by go_num, Lib.hid (Hnext.out Hno.out)⟩
        case measure => simp [intOf]; omega
    · obtain rfl : j = 8 * n := by omega
      have HR := Lib.hid (fst_no (l := l) (j := 8 * l.length) (by rw [Hn.out]; exact Hq.out))
      go_wp2
      go_ret2
      exact ⟨by rw [HR.out]; rfl, rfl⟩
end Go.Proofs.Ytobjkknemnekjaa
