/-
  Join and Parse, as the document answers.
-/
import Derived.Test.YthpppkkagepomaaPathX1
namespace Go.Proofs.Ythpppkkagepomaa.Path
open Go.RowKit Go.Proofs.Ythpppkkagepomaa.Entry

theorem pth_take {l : List (List UInt8)} {j : Nat} {n : List UInt8} (hn : l[j]? = some n) : pth (l.take (j + 1)) = pth (l.take j) ++ [47] ++ n := by
  rw [List.take_add_one, hn, pth_append]
  show _ ++ (47 :: (n ++ [])) = _
  simp
theorem pth_size {l : List (List UInt8)} {j : Nat} (h : (l.take j).all nameB = true) : (pth (l.take j)).length ≤ j * 14 := by
  have h1 := (length_pth (names_all.1 h)).1
  have h2 : (l.take j).length ≤ j := by rw [List.length_take]; omega
  omega
theorem pth_nil {l : List (List UInt8)} : (pth l == []) = (l == []) := by
  cases l with
  | nil => rfl
  | cons n l => rfl
set_option maxHeartbeats 800000 in
theorem rjoin_any (l : List (List UInt8)) (A : Option Addr) (n c : Nat) (w : World) (hn : l.length = n) (hr : Rd w w.heap.size A (strsV l)) (hm : n ≤ 9223372036854775807) :
    Calls Try.prog 18 #[.slice A n c] w fun e w' => HandsJ w (joinP l) e w' := by
  have Hr := Lib.hid hr
  have Hn := Lib.hid hn
  by_cases h16 : n ≤ 16
  · have hle : ¬ (16 : Int) < (n : Int) := by omega
    clear hn hr
    go_enter Try.func18, Try.ntmps18
    go_wp2
    go_loop [4, 5] (fun t i => ∃ (j : Nat) (s : ByteArray), j ≤ n ∧ i = .int .i64 (j : Int) ∧ t = .string s ∧ Hid (s.data.toList = pth (l.take j)) ∧ Hid ((l.take j).all nameB = true)) (fun _ i => n - (intOf i).toNat)
    case atStart => exact ⟨0, ⟨#[]⟩, Nat.zero_le _, rfl, rfl, Lib.hid rfl, Lib.hid rfl⟩
    case round =>
      obtain ⟨j, s, hj, rfl, rfl, HS, HA⟩ := hrel
      have hsz : s.size ≤ 224 := by
        have h1 := pth_size HA.out
        rw [← HS.out] at h1
        have h2 : s.size = s.data.toList.length := rfl
        omega
      by_cases hlt : j < n
      · obtain ⟨x, hx⟩ : ∃ x, l[j]? = some x := ⟨_, List.getElem?_eq_getElem (by rw [Hn.out]; exact hlt)⟩
        obtain ⟨B, o, rfl, hB⟩ := rd_strs Hr.out (by rw [Hn.out]; omega)
        have hc := rd_str Hr.out hx
        unfold strV at hc
        have HX := Lib.hid hx
        obtain ⟨X, hXe⟩ : ∃ X : ByteArray, (⟨x.toArray⟩ : ByteArray) = X := ⟨_, rfl⟩
        rw [hXe] at hc
        have HXD : Hid (X.data.toList = x) := Lib.hid (by rw [← hXe])
        have HR : Hid (∀ w, Calls Try.prog 26 #[.string X] w fun e w' => e = .returned (.bool (nameB x)) ∧ w = w') := Lib.hid fun w => by
          have := rright_any X w
          rwa [HXD.out] at this
        clear hx hXe
        cases hp : nameB x with
        | true =>
          have Hnext := Lib.hid (all_step HA.out HX.out hp)
          have HPT := Lib.hid (pth_take HX.out)
          have hxs : X.size ≤ 13 := by
            have h1 := (name_len hp).2
            rw [← HXD.out] at h1
            exact h1
          rw [hp] at HR
          clear hp
          go_wp2_with (go_at_call 26; (with_reducible refine (HR.out _).mono ?_); rintro e w2 ⟨he, hw2⟩; obtain rfl := he; subst hw2)
          go_round
          case rel => exact ⟨j + 1, _, by omega, by go_num, rfl, Lib.hid (by rw [HPT.out, ← HS.out, ← HXD.out, str_cat, str_cat]), Hnext⟩
          case measure => simp [intOf]; omega
        | false =>
          have HN : Hid (¬ Okp l) := Lib.hid (fun h => by have := all_bad HX.out hp; rw [okp_iff, this] at h; cases h.2)
          rw [hp] at HR
          clear hp
          go_wp2_with (go_at_call 26; (with_reducible refine (HR.out _).mono ?_); rintro e w2 ⟨he, hw2⟩; obtain rfl := he; subst hw2)
          go_ret2
          exact handsj_no HN.out (Below.refl _ _)
      · obtain rfl : j = n := by omega
        have ht : l.take j = l := List.take_of_length_le (by rw [Hn.out]; omega)
        rw [ht] at HS HA
        have HY : Hid (Okp l) := Lib.hid ((okp_iff l).2 ⟨by rw [Hn.out]; exact h16, HA.out⟩)
        have i0 : (s.toList == []) = (l == []) := by rw [ByteArray.toList_eq, HS.out]; exact pth_nil
        clear ht
        cases h0 : (l == [])
        · rw [h0] at i0
          have HP : Hid (s.data.toList = pathB l) := Lib.hid (by
            unfold pathB
            rw [if_neg (by intro h; rw [h] at h0; cases h0)]
            exact HS.out)
          clear h0
          go_wp2
          go_ret2
          exact handsj_yes HY.out HP.out (Below.refl _ _)
        · rw [h0] at i0
          have HP : Hid ((⟨#[47]⟩ : ByteArray).data.toList = pathB l) := Lib.hid (by
            have : l = [] := by simpa using h0
            rw [this]; rfl)
          clear h0
          go_wp2
          go_ret2
          exact handsj_yes HY.out HP.out (Below.refl _ _)
  · have HN : Hid (¬ Okp l) := Lib.hid (fun h => by have := h.len; have := Hn.out; omega)
    have hle : (16 : Int) < (n : Int) := by omega
    clear hn hr
    go_enter Try.func18, Try.ntmps18
    go_wp2
    go_ret2
    exact handsj_no HN.out (Below.refl _ _)
end Go.Proofs.Ythpppkkagepomaa.Path
