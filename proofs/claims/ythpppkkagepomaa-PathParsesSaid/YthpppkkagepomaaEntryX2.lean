/-
  Which names may be: package entry's Right and the document's.
-/
import Derived.Test.YthpppkkagepomaaEntryX1
namespace Go.Proofs.Ythpppkkagepomaa.Entry
open Go.RowKit

theorem str_is (s : ByteArray) (l : List UInt8) : (s.toList == l) = (s.data.toList == l) := by
  rw [ByteArray.toList_eq]
theorem contains_at (s : ByteArray) (w : World) (hs : s.size ≤ 13) :
    Calls Try.prog 28 #[.string s, .string ⟨#[0, 47]⟩] w fun e w' => e = .returned (.bool (s.data.toList.any fun c => c == 0 || c == 47)) ∧ Below w.heap.size w w' := contains_any s w hs
theorem nameB_dot {l : List UInt8} (h : (l == [46]) = true) : nameB l = false := by unfold nameB; rw [h]; simp
theorem nameB_dots {l : List UInt8} (h : (l == [46, 46]) = true) : nameB l = false := by unfold nameB; rw [h]; simp
theorem nameB_len {l : List UInt8} (h : ¬ (1 ≤ l.length ∧ l.length ≤ 13)) : nameB l = false := by
  cases hb : nameB l with
  | false => rfl
  | true => exact absurd (name_len hb) h
theorem nameB_else {l : List UInt8} (h1 : (l == [46]) = false) (h2 : (l == [46, 46]) = false) (h3 : 1 ≤ l.length) (h4 : l.length ≤ 13) : nameB l = !(l.any fun c => c == 0 || c == 47) := by
  unfold nameB
  rw [h1, h2, decide_eq_true h3, decide_eq_true h4, List.any_eq_not_all_not]
  simp
theorem right_any (s : ByteArray) (w : World) : Calls Try.prog 21 #[.string s] w fun e w' => e = .returned (.bool (nameB s.data.toList)) ∧ Below w.heap.size w w' := by
  have hsz := Lib.size_eq s
  have i1 := str_is s [46]
  have i2 := str_is s [46, 46]
  cases h1 : (s.data.toList == [46])
  · cases h2 : (s.data.toList == [46, 46])
    · by_cases h3 : 1 ≤ s.size
      · by_cases h4 : s.size ≤ 13
        · have hN := nameB_else h1 h2 (by omega) (by omega)
          rw [h1] at i1
          rw [h2] at i2
          rw [hN]
          have hC := fun w => contains_at s w h4
          generalize (s.data.toList.any fun c => c == 0 || c == 47) = bb at *
          clear h1 h2 hN hsz
          go_enter Try.func21, Try.ntmps21
          go_wp2_with (go_at_call 28; (with_reducible refine (hC _).mono ?_); rintro e w1 ⟨he, hb⟩; obtain rfl := he)
          go_ret
          exact ⟨rfl, hb⟩
        · have hN := nameB_len (l := s.data.toList) (by omega)
          rw [h1] at i1
          rw [h2] at i2
          rw [hN]
          clear h1 h2 hN hsz
          go_enter Try.func21, Try.ntmps21
          go_wp2
          go_ret
          exact ⟨rfl, Below.refl _ _⟩
      · have hN := nameB_len (l := s.data.toList) (by omega)
        rw [h1] at i1
        rw [h2] at i2
        rw [hN]
        have h0 : s.size = 0 := by omega
        clear h1 h2 hN hsz
        go_enter Try.func21, Try.ntmps21
        go_wp2
        go_ret
        exact ⟨rfl, Below.refl _ _⟩
    · rw [nameB_dots h2]
      rw [h1] at i1
      rw [h2] at i2
      clear h1 h2 hsz
      go_enter Try.func21, Try.ntmps21
      go_wp2
      go_ret
      exact ⟨rfl, Below.refl _ _⟩
  · rw [nameB_dot h1]
    rw [h1] at i1
    clear h1 i2 hsz
    go_enter Try.func21, Try.ntmps21
    go_wp2
    go_ret
    exact ⟨rfl, Below.refl _ _⟩

/-- No byte 0, and no slash, among the first ones. -/
def Clean (l : List UInt8) (j : Nat) : Prop := ∀ (i : Nat) b, i < j → l[i]? = some b → (b == 0) = false ∧ (b == 47) = false
theorem Clean.zero (l : List UInt8) : Clean l 0 := fun _ _ h => absurd h (Nat.not_lt_zero _)
theorem Clean.succ {l : List UInt8} {j : Nat} {x : UInt8} (h : Clean l j) (hx : l[j]? = some x) (h0 : (x == 0) = false) (h1 : (x == 47) = false) : Clean l (j + 1) := fun i b hi hb => by
  by_cases e : i = j
  · subst e; rw [hx] at hb; cases hb; exact ⟨h0, h1⟩
  · exact h i b (by omega) hb
theorem clean_any {l : List UInt8} (h : Clean l l.length) : (l.any fun c => c == 0 || c == 47) = false := by
  rw [List.any_eq_false]
  intro b hb
  obtain ⟨i, hi⟩ := List.mem_iff_getElem?.1 hb
  obtain ⟨h1, h2⟩ := h i b (List.getElem?_eq_some_iff.1 hi).1 hi
  simp [h1, h2]
theorem dirty_any {l : List UInt8} {j : Nat} {x : UInt8} (hx : l[j]? = some x) (h : ((x == 0) || (x == 47)) = true) : (l.any fun c => c == 0 || c == 47) = true := by
  rw [List.any_eq_true]
  exact ⟨x, List.mem_of_getElem? hx, h⟩
theorem u8_is (x : UInt8) (k : UInt8) : (((x.toNat : Nat) : Int) == (k.toNat : Int)) = (x == k) := by
  rw [Bool.eq_iff_iff, beq_iff_eq, beq_iff_eq]
  constructor
  · intro h
    exact UInt8.toNat_inj.1 (by omega)
  · rintro rfl
    rfl
theorem rright_any (s : ByteArray) (w : World) : Calls Try.prog 26 #[.string s] w fun e w' => e = .returned (.bool (nameB s.data.toList)) ∧ w = w' := by
  have hsz := Lib.size_eq s
  have i0 : (s.toList == []) = (s.data.toList == []) := by rw [ByteArray.toList_eq]
  have i1 := str_is s [46]
  have i2 := str_is s [46, 46]
  by_cases h3 : 1 ≤ s.size
  · have h0 : (s.data.toList == []) = false := by
      rw [beq_eq_false_iff_ne]
      intro h
      have h9 : s.data.toList.length = 0 := by rw [h]; rfl
      omega
    rw [h0] at i0
    by_cases h4 : s.size ≤ 13
    · have h4j : decide (13 < (s.size : Int)) = false := decide_eq_false (by omega)
      cases h1 : (s.data.toList == [46])
      · cases h2 : (s.data.toList == [46, 46])
        · have hN := nameB_else h1 h2 (by omega) (by omega)
          rw [h1] at i1
          rw [h2] at i2
          rw [hN]
          have HN := Lib.hid hsz
          obtain ⟨bb, hbb⟩ : ∃ bb, (s.data.toList.any fun c => c == 0 || c == 47) = bb := ⟨_, rfl⟩
          rw [hbb]
          have HBB := Lib.hid hbb
          clear h1 h2 hN hsz h0 hbb
          go_enter Try.func26, Try.ntmps26
          go_wp2
          go_loop [3] (fun k => ∃ j : Nat, j ≤ s.size ∧ k = .int .i64 (j : Int) ∧ Clean s.data.toList j) (fun k => s.size - (intOf k).toNat)
          case atStart => exact ⟨0, Nat.zero_le _, rfl, Clean.zero _⟩
          case round =>
            obtain ⟨j, hj, rfl, hcl⟩ := hrel
            have HC := Lib.hid hcl
            clear hcl
            by_cases hlt : j < s.size
            · obtain ⟨x, hx⟩ : ∃ x : UInt8, s[j]'hlt = x := ⟨_, rfl⟩
              have hxl := Lib.data_getElem? s j hlt
              rw [hx] at hxl
              have HX := Lib.hid hxl
              have u0 := u8_is x 0
              have u1 := u8_is x 47
              have c0 : ((0 : UInt8).toNat : Int) = 0 := rfl
              have c1 : ((47 : UInt8).toNat : Int) = 47 := rfl
              rw [c0] at u0
              rw [c1] at u1
              clear c0 c1 hxl
              cases b0 : (x == 0)
              · cases b1 : (x == 47)
                · rw [b0] at u0
                  rw [b1] at u1
                  have HC2 := Lib.hid (HC.out.succ HX.out b0 b1)
                  clear b0 b1
                  go_wp2
                  go_round
                  case rel => exact ⟨j + 1, by omega, by go_num, HC2.out⟩
                  case measure => simp [intOf]; omega
                · rw [b0] at u0
                  rw [b1] at u1
                  have HD := Lib.hid (HBB.out.symm.trans (dirty_any HX.out (by rw [b1]; simp)))
                  clear b0 b1
                  go_wp2
                  go_ret
                  exact ⟨by rw [HD.out]; rfl, rfl⟩
              · rw [b0] at u0
                have HD := Lib.hid (HBB.out.symm.trans (dirty_any HX.out (by rw [b0]; simp)))
                clear b0 u1
                go_wp2
                go_ret
                exact ⟨by rw [HD.out]; rfl, rfl⟩
            · obtain rfl : j = s.size := by omega
              have HD := Lib.hid (HBB.out.symm.trans (clean_any (by rw [← HN.out]; exact HC.out)))
              go_wp2
              go_ret
              exact ⟨by rw [HD.out]; rfl, rfl⟩
        · rw [nameB_dots h2]
          rw [h1] at i1
          rw [h2] at i2
          clear h1 h2 hsz
          go_enter Try.func26, Try.ntmps26
          go_wp2
          go_ret
          exact ⟨rfl, rfl⟩
      · rw [nameB_dot h1]
        rw [h1] at i1
        clear h1 i2 hsz
        go_enter Try.func26, Try.ntmps26
        go_wp2
        go_ret
        exact ⟨rfl, rfl⟩
    · rw [nameB_len (l := s.data.toList) (by omega)]
      clear i1 i2 hsz h0
      go_enter Try.func26, Try.ntmps26
      go_wp2
      go_ret
      exact ⟨rfl, rfl⟩
  · have h0 : (s.data.toList == []) = true := by
      rw [beq_iff_eq]
      exact List.eq_nil_of_length_eq_zero (by omega)
    rw [h0] at i0
    rw [nameB_len (l := s.data.toList) (by omega)]
    clear i1 i2 hsz h0
    go_enter Try.func26, Try.ntmps26
    go_wp2
    go_ret
    exact ⟨rfl, rfl⟩
end Go.Proofs.Ythpppkkagepomaa.Entry
