/-
  Lists of sectors compared; what is known compared with itself in another place.
-/
import Derived.Test.YtaflpigpeckhoaaQMetaA
import Derived.Test.YtaflpigpeckhoaaQInternB
import Derived.Test.YtaflpigpeckhoaaQInodeA
import Derived.BigQuiet
import Derived.Deep.QuietTactic
namespace Go.Proofs.Ytaflpigpeckhoaa.Meta
open Go.Proofs.Ytaflpigpeckhoaa
open Go.RowKit

theorem below_drewN {B : Nat} {a w : World} (h : Below B a w) (n : Nat) : Below B a (w.drewN n) := ⟨h.os, h.tape, h.output, h.size, h.block⟩
theorem str_sec {w : World} {B : Nat} {A : Option Addr} {l : List UInt8} {n c : Nat} (hn : l.length = n) (hr : Rd w B A (bytesV l)) : (convert 26 9 (.slice A n c)).run Try.prog w = .ok (.string ⟨l.toArray⟩) w :=
  run_str w 26 9 5 Try.underlying26 Try.underlying5 Try.underlying9 B A n c l hn hr
theorem str_cmp (x y : List UInt8) : ((⟨x.toArray⟩ : ByteArray).toList == (⟨y.toArray⟩ : ByteArray).toList) = (x == y) := by
  rw [ByteArray.toList_eq, ByteArray.toList_eq]
theorem ret_b2 {a b : Bool} (h : a = b) : Ending.returned (.bool a) = .returned (.bool b) := by rw [h]
set_option maxHeartbeats 1600000 in
/-- Whether two lists of sectors are the same. -/
theorem rsec_in (l m : List (List UInt8)) (A1 A2 : Option Addr) (n c d : Nat) (L M : List Sc) (w : World) (hl : l.length = n) (hm : m.length = n) (h1 : SecsAt w w.heap.size A1 L l) (h2 : SecsAt w w.heap.size A2 M m) (hn : n ≤ 1000000) :
    Calls Try.prog 18 #[.slice A1 n c, .slice A2 n d] w fun e w' => e = .returned (.bool (l == m)) ∧ Below w.heap.size w w' := by
  have H1 := Lib.hid h1
  have H2 := Lib.hid h2
  have HL := Lib.hid hl
  have HMl := Lib.hid hm
  clear h1 h2 hl hm
  by_cases hE : 0 < n
  · obtain ⟨b1, o1, rfl, -⟩ := H1.out.first (by rw [HL.out]; exact hE)
    obtain ⟨b2, o2, rfl, -⟩ := H2.out.first (by rw [HMl.out]; exact hE)
    go_enter Try.func18, Try.ntmps18
    go_wp2
    go_loopw [5] (fun k wr => ∃ i : Nat, k = .int .i64 (i : Int) ∧ i ≤ n ∧ Hid (l.take i = m.take i) ∧ Hid (SecsAt wr w.heap.size (some ⟨b1, o1, none⟩) L l) ∧ Hid (SecsAt wr w.heap.size (some ⟨b2, o2, none⟩) M m) ∧ Hid (Below w.heap.size w wr)) (fun k _ => n - (intOf k).toNat)
    case atStart => exact ⟨0, rfl, Nat.zero_le _, Lib.hid (by simp), H1, H2, Lib.hid (Below.refl _ _)⟩
    case round =>
      obtain ⟨i, rfl, hi, HE, HS1, HS2, HB⟩ := hrel
      by_cases hlt : i < n
      · have hlti : (i : Int) < (n : Int) := by omega
        have hi0 : (0 : Int) ≤ (i : Int) := by omega
        have hiw : IntKind.i64.wrap ((i : Int) + 1) = ((i + 1 : Nat) : Int) := by rw [IntKind.wrap_i64]; omega
        obtain ⟨x, hx⟩ : ∃ x, l[i]? = some x := ⟨_, List.getElem?_eq_getElem (by rw [HL.out]; exact hlt)⟩
        obtain ⟨y, hy⟩ : ∃ y, m[i]? = some y := ⟨_, List.getElem?_eq_getElem (by rw [HMl.out]; exact hlt)⟩
        obtain ⟨s, hs, hcx, hrx, -, -⟩ := HS1.out.get hx
        obtain ⟨t, ht, hcy, hry, -, -⟩ := HS2.out.get hy
        have kx := fun k => str_sec (n := x.length) (c := s.c) rfl (hrx.drewN k)
        have ky := fun k => str_sec (n := y.length) (c := t.c) rfl (hry.drewN k)
        have ixy := str_cmp x y
        have HX := Lib.hid hx
        have HY := Lib.hid hy
        generalize (⟨x.toArray⟩ : ByteArray) = X at *
        generalize (⟨y.toArray⟩ : ByteArray) = Y at *
        clear hx hy hs ht hrx hry
        cases hxy : (x == y)
        · have HF : Hid ((l == m) = false) := Lib.hid (by
            cases h : (l == m) with
            | false => rfl
            | true =>
              have h : l = m := by simpa using h
              have h1 := HY.out
              rw [← h, HX.out] at h1
              injection h1 with h1
              rw [h1] at hxy
              simp at hxy)
          rw [hxy] at ixy
          clear hxy
          go_wp2_with fail
          go_quiet (fail)
          go_wp2
          go_ret
          exact ⟨ret_b2 HF.out.symm, below_drewN HB.out _⟩
        · have HE2 : Hid (l.take (i + 1) = m.take (i + 1)) := Lib.hid (by
            have h : x = y := by simpa using hxy
            rw [List.take_add_one, List.take_add_one, HE.out, HX.out, HY.out, h])
          rw [hxy] at ixy
          clear hxy
          go_wp2_with fail
          go_quiet (fail)
          go_wp2
          have HS17 := Lib.hid (show SecsAt (wr.drewN nq) w.heap.size (some ⟨b1, o1, none⟩) L l from HS1.out.below (below_drewN (Below.refl _ _) _))
          have HS27 := Lib.hid (show SecsAt (wr.drewN nq) w.heap.size (some ⟨b2, o2, none⟩) M m from HS2.out.below (below_drewN (Below.refl _ _) _))
          have HB7 := Lib.hid (below_drewN HB.out nq)
          go_roundw
          case rel => exact ⟨i + 1, by first | rfl | (congr 1), hlt, HE2, HS17, HS27, HB7⟩
          case measure => simp [intOf]; omega
      · obtain rfl : n = i := by omega
        have HT : Hid ((l == m) = true) := Lib.hid (by
          have h := HE.out
          rw [List.take_of_length_le (by rw [HL.out]; exact Nat.le_refl _), List.take_of_length_le (by rw [HMl.out]; exact Nat.le_refl _)] at h
          rw [h]; simp)
        go_wp2
        go_ret
        exact ⟨ret_b2 HT.out.symm, HB.out⟩
  · obtain rfl : n = 0 := by omega
    have HT : Hid ((l == m) = true) := Lib.hid (by rw [List.eq_nil_of_length_eq_zero HL.out, List.eq_nil_of_length_eq_zero HMl.out]; rfl)
    go_enter Try.func18, Try.ntmps18
    go_wp2
    go_loopw [5] (fun k wr => k = .int .i64 0 ∧ wr = w) (fun _ _ => 0)
    case atStart => exact ⟨rfl, rfl⟩
    case round =>
      obtain ⟨rfl, rfl⟩ := hrel
      go_wp2
      go_ret
      exact ⟨ret_b2 HT.out.symm, Below.refl _ _⟩
theorem rsec_any (l m : List (List UInt8)) (A1 A2 : Option Addr) (n k c d : Nat) (L M : List Sc) (w : World) (hl : l.length = n) (hm : m.length = k) (h1 : SecsAt w w.heap.size A1 L l) (h2 : SecsAt w w.heap.size A2 M m) (hn : n ≤ 1000000) :
    Calls Try.prog 18 #[.slice A1 n c, .slice A2 k d] w fun e w' => e = .returned (.bool (l == m)) ∧ Below w.heap.size w w' := by
  by_cases h : n = k
  · subst h
    exact rsec_in l m A1 A2 n c d L M w hl hm h1 h2 hn
  · have HT : Hid ((l == m) = false) := Lib.hid (by
      cases hh : (l == m) with
      | false => rfl
      | true =>
        have hh : l = m := by simpa using hh
        rw [hh] at hl
        omega)
    have hne : ((n : Int) != (k : Int)) = true := by simp; omega
    clear h1 h2 hl hm
    go_enter Try.func18, Try.ntmps18
    go_wp2
    go_ret
    exact ⟨ret_b2 HT.out.symm, Below.refl _ _⟩
end Go.Proofs.Ytaflpigpeckhoaa.Meta
