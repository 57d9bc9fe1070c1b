/-
  The small functions of package entry: the eight bits of a name, bytes compared, free places, a place's name, a place among bytes: what each call returns.
-/
import Derived.Test.YtlopndnjkphdnaaEntryA
import Derived.Test.YtlopndnjkphdnaaSpinW4
import Derived.Test.YtlopndnjkphdnaaW3
namespace Go.Proofs.Ytlopndnjkphdnaa.Entry
open Go.RowKit

theorem alloc_below (w : World) (o : Obj) : Below w.heap.size w (w.alloc o) := (Below.refl _ _).alloc (Nat.le_refl _) _
theorem below_drew {B : Nat} {a w : World} (h : Below B a w) : Below B a w.drew := ⟨h.os, h.tape, h.output, h.size, h.block⟩
theorem lt_of {w : World} {g o : Nat} {v : Value} (h : w.cell? ⟨g, o, none⟩ = some v) : g < w.heap.size := World.block_lt_of_cell? w _ h
/-- The eight bits of a name. -/
def hsh (l : List UInt8) : UInt8 := UInt8.ofNat (Spin.bitsI (Spin.ofX l) (Spin.ofY l)).toNat
theorem hsh_int (l : List UInt8) : Spin.bitsI (Spin.ofX l) (Spin.ofY l) = ((hsh l).toNat : Int) := by
  have h : 0 ≤ Spin.bitsI (Spin.ofX l) (Spin.ofY l) ∧ Spin.bitsI (Spin.ofX l) (Spin.ofY l) < 256 := by
    unfold Spin.bitsI
    omega
  unfold hsh
  generalize Spin.bitsI (Spin.ofX l) (Spin.ofY l) = x at *
  have : (UInt8.ofNat x.toNat).toNat = x.toNat := by simp; omega
  rw [this]
  omega
theorem str_eq (a b : ByteArray) : (a.toList == b.toList) = (a.data.toList == b.data.toList) := by
  rw [ByteArray.toList_eq, ByteArray.toList_eq]
theorem bits_of (s : ByteArray) (w : World) (hs : s.size ≤ 9223372036854775807) :
    Calls Try.prog 29 #[.string s] w fun e w' => e = .returned (.int .u8 ((hsh s.data.toList).toNat : Int)) ∧ Below w.heap.size w w' := by
  have hh := hsh_int s.data.toList
  generalize ((hsh s.data.toList).toNat : Int) = h at *
  go_enter Try.func29, Try.ntmps29
  go_wp2_with (first
    | (go_at_call 45; (with_reducible refine (Spin.of_any s _ hs).mono ?_); rintro e w1 ⟨he, hb⟩; obtain rfl := he; have HB := Lib.hid hb; clear hb)
    | (go_at_call 44; (with_reducible refine (Spin.bits_any _ _ _).mono ?_); rintro e w2 ⟨he, hb⟩; obtain rfl := he; have HB2 := Lib.hid hb; clear hb))
  go_ret
  exact ⟨rfl, HB.out.trans (HB2.out.mono HB.out.size)⟩

theorem str_of {l : List UInt8} {A : Option Addr} {n c B : Nat} {w : World} (hn : l.length = n) (hr : Rd w B A (bytesV l)) : (convert 24 9 (.slice A n c)).run Try.prog w = .ok (.string ⟨l.toArray⟩) w :=
  run_str w 24 9 5 Try.underlying24 Try.underlying5 Try.underlying9 B A n c l hn hr
theorem equal_any (l m : List UInt8) (A : Option Addr) (n c : Nat) (A2 : Option Addr) (n2 c2 B B2 : Nat) (w : World) (hn : l.length = n) (hr : Rd w B A (bytesV l)) (hn2 : m.length = n2) (hr2 : Rd w B2 A2 (bytesV m)) :
    Calls Try.prog 35 #[.slice A n c, .slice A2 n2 c2] w fun e w' => e = .returned (.bool (l == m)) ∧ w = w' := by
  have h1 := str_of (c := c) hn hr
  have h2 := str_of (c := c2) hn2 hr2
  clear hn hr hn2 hr2
  go_enter Try.func35, Try.ntmps35
  go_wp2
  go_ret
  exact ⟨rfl, rfl⟩

theorem make16 (u : World) : (Instr.makeSlice 24 (.int .i64 16) (.int .i64 16)).run Try.prog u = .ok (.slice (some ⟨u.heap.size, 0, none⟩) 16 16) (u.alloc (.cells (bytesV zeros16).toArray 5)) := make_bytes 16 (by omega) u
theorem zeros_len : zeros16.length = 16 := rfl
theorem zeros_rd (w : World) : Rd (w.alloc (.cells (bytesV zeros16).toArray 5)) (w.heap.size + 1) (some ⟨w.heap.size, 0, none⟩) (bytesV zeros16) := by
  have h := (Bk.new w 5 (bytesV zeros16)).rd 16 0
  rw [List.drop_zero, List.take_of_length_le (by simp [bytesV, zeros16])] at h
  simpa using h
/-- Whether a place is free. -/
theorem free_any (l : List UInt8) (A : Option Addr) (n c B : Nat) (w : World) (hn : l.length = n) (hr : Rd w B A (bytesV l)) (hB : B ≤ w.heap.size) :
    Calls Try.prog 33 #[.slice A n c] w fun e w' => e = .returned (.bool (l == zeros16)) ∧ w' = w.alloc (.cells (bytesV zeros16).toArray 5) := by
  have Hr := Lib.hid hr
  have Hn := Lib.hid hn
  clear hr hn
  have hmk := make16
  go_enter Try.func33, Try.ntmps33
  go_wp2_with (go_at_call 35; (with_reducible refine (equal_any l zeros16 A n c _ 16 16 B (w.heap.size + 1) _ Hn.out (Hr.out.below ((alloc_below _ _).mono hB)) zeros_len (zeros_rd w)).mono ?_); rintro e w1 ⟨he, hw⟩; obtain rfl := he; subst hw)
  go_ret
  exact ⟨rfl, rfl⟩

/-- The name in sixteen bytes. -/
def nameL (l : List UInt8) : List UInt8 := (l.drop 3).take (min (l.getD 0 0).toNat 13)
theorem rd_get {w : World} {B b o : Nat} {l : List UInt8} (h : Rd w B (some ⟨b, o, none⟩) (bytesV l)) (i : Nat) (hi : i < l.length) : w.cell? ⟨b, o + i, none⟩ = some (.int .u8 ((l.getD i 0).toNat : Int)) := by
  rcases h with h | ⟨b', o', h1, _, h3⟩
  · have : l = [] := by simpa [bytesV] using h
    subst this
    simp at hi
  · injection h1 with h1
    injection h1 with h1 h2 _
    subst h1 h2
    exact h3 i _ (by simp [bytesV, byteV, List.getD_eq_getElem?_getD, List.getElem?_eq_getElem hi])
theorem rd_at {w : World} {B : Nat} {A : Option Addr} {xs : List Value} (h : Rd w B A xs) (hx : xs ≠ []) : ∃ b o, A = some ⟨b, o, none⟩ ∧ b < B := by
  rcases h with h | ⟨b, o, h1, h2, _⟩
  · exact absurd h hx
  · exact ⟨b, o, h1, h2⟩
theorem rd_part {w : World} {B b o : Nat} {l : List UInt8} (h : Rd w B (some ⟨b, o, none⟩) (bytesV l)) (i k : Nat) : Rd w B (some ⟨b, o + i, none⟩) (bytesV ((l.drop i).take k)) := by
  rcases h with h | ⟨b', o', h1, h2, h3⟩
  · have : l = [] := by simpa [bytesV] using h
    subst this
    exact .inl (by simp [bytesV])
  · injection h1 with h1
    injection h1 with h1 h4 _
    subst h1 h4
    refine .inr ⟨b, o + i, rfl, h2, fun j u hu => ?_⟩
    rw [bytesV_take, bytesV_drop, List.getElem?_take] at hu
    split at hu
    · rw [Nat.add_assoc]
      exact h3 _ u (by rw [← hu, List.getElem?_drop])
    · cases hu
theorem bytesV_ne {l : List UInt8} {n : Nat} (h : l.length = n) (hn : 0 < n) : bytesV l ≠ [] := by
  intro he
  have : l = [] := by simpa [bytesV] using he
  subst this
  simp at h
  omega

theorem name_at (l : List UInt8) (b o c B : Nat) (w : World) (hn : l.length = 16) (hr : Rd w B (some ⟨b, o, none⟩) (bytesV l)) (hc : 16 ≤ c) :
    Calls Try.prog 34 #[.slice (some ⟨b, o, none⟩) 16 c] w fun e w' => e = .returned (.string ⟨(nameL l).toArray⟩) ∧ w = w' := by
  have hc0 := rd_get hr 0 (by omega)
  rw [Nat.add_zero] at hc0
  obtain ⟨x, hxe⟩ : ∃ x : Nat, (l.getD 0 0).toNat = x := ⟨_, rfl⟩
  have hx := (l.getD 0 0).toNat_lt
  rw [hxe] at hc0 hx
  by_cases h13 : (x : Int) ≤ 13
  · have hlen : (nameL l).length = x := by unfold nameL; rw [hxe, List.length_take, List.length_drop]; omega
    have hst := str_of (c := c - 3) hlen (rd_part hr 3 (min (l.getD 0 0).toNat 13))
    clear hr hn hxe
    go_enter Try.func34, Try.ntmps34
    go_wp2
    go_ret
    exact ⟨rfl, rfl⟩
  · have h14 : 13 < (x : Int) := by omega
    have hlen : (nameL l).length = 13 := by unfold nameL; rw [hxe, List.length_take, List.length_drop]; omega
    have hst := str_of (c := c - 3) hlen (rd_part hr 3 (min (l.getD 0 0).toNat 13))
    clear hr hn hxe
    go_enter Try.func34, Try.ntmps34
    go_wp2
    go_ret
    exact ⟨rfl, rfl⟩

theorem slot_at (b o n c at_ : Nat) (w : World) (ha : at_ + 16 ≤ n) (hc : n ≤ c) (hm : c ≤ maxLen) :
    Calls Try.prog 37 #[.slice (some ⟨b, o, none⟩) n c, .int .i64 (at_ : Int)] w fun e w' => e = .returned (.slice (some ⟨b, o + at_, none⟩) 16 (c - at_)) ∧ w = w' := by
  unfold maxLen at hm
  have e16 : at_ + 16 - at_ = 16 := by omega
  go_enter Try.func37, Try.ntmps37
  go_wp2
  rw [e16]
  go_ret
  exact ⟨rfl, rfl⟩
/-- A place, as it is read. -/
theorem slot_any (l : List UInt8) (A : Option Addr) (n c B at_ : Nat) (w : World) (hn : l.length = n) (hr : Rd w B A (bytesV l)) (ha : at_ + 16 ≤ n) (hc : n ≤ c) (hm : c ≤ maxLen) :
    Calls Try.prog 37 #[.slice A n c, .int .i64 (at_ : Int)] w fun e w' => ∃ A', e = .returned (.slice A' 16 (c - at_)) ∧ Rd w B A' (bytesV ((l.drop at_).take 16)) ∧ w = w' := by
  obtain ⟨b, o, rfl, _⟩ := rd_at hr (bytesV_ne hn (by omega))
  exact (slot_at b o n c at_ w ha hc hm).mono fun e w' ⟨h1, h2⟩ => ⟨_, h1, rd_part hr at_ 16, h2⟩
theorem name_any (l : List UInt8) (A : Option Addr) (c B : Nat) (w : World) (hn : l.length = 16) (hr : Rd w B A (bytesV l)) (hc : 16 ≤ c) :
    Calls Try.prog 34 #[.slice A 16 c] w fun e w' => e = .returned (.string ⟨(nameL l).toArray⟩) ∧ w = w' := by
  obtain ⟨b, o, rfl, _⟩ := rd_at hr (bytesV_ne hn (by omega))
  exact name_at l b o c B w hn hr hc
end Go.Proofs.Ytlopndnjkphdnaa.Entry
