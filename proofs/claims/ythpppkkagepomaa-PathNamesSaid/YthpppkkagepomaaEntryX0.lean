/-
  Small words on memory: what is new, a byte among others, a part of a slice.
-/
import Derived.Test.YthpppkkagepomaaEntryA
namespace Go.Proofs.Ythpppkkagepomaa.Entry
open Go.RowKit

theorem alloc_below (w : World) (o : Obj) : Below w.heap.size w (w.alloc o) := (Below.refl _ _).alloc (Nat.le_refl _) _
theorem below_drew {B : Nat} {a w : World} (h : Below B a w) : Below B a w.drew := ⟨h.os, h.tape, h.output, h.size, h.block⟩
theorem below_drewN {B : Nat} {a w : World} (h : Below B a w) (n : Nat) : Below B a (w.drewN n) := ⟨h.os, h.tape, h.output, h.size, h.block⟩
theorem lt_of {w : World} {g o : Nat} {v : Value} (h : w.cell? ⟨g, o, none⟩ = some v) : g < w.heap.size := World.block_lt_of_cell? w _ h
theorem str_eq (a b : ByteArray) : (a.toList == b.toList) = (a.data.toList == b.data.toList) := by
  rw [ByteArray.toList_eq, ByteArray.toList_eq]
theorem str_of {l : List UInt8} {A : Option Addr} {n c B : Nat} {w : World} (hn : l.length = n) (hr : Rd w B A (bytesV l)) : (convert 43 9 (.slice A n c)).run Try.prog w = .ok (.string ⟨l.toArray⟩) w :=
  run_str w 43 9 5 Try.underlying43 Try.underlying5 Try.underlying9 B A n c l hn hr
theorem make16 (u : World) : (Instr.makeSlice 43 (.int .i64 16) (.int .i64 16)).run Try.prog u = .ok (.slice (some ⟨u.heap.size, 0, none⟩) 16 16) (u.alloc (.cells (bytesV zeros16).toArray 5)) := make_bytes 16 (by omega) u
theorem zeros_len : zeros16.length = 16 := rfl
theorem zeros_rd (w : World) : Rd (w.alloc (.cells (bytesV zeros16).toArray 5)) (w.heap.size + 1) (some ⟨w.heap.size, 0, none⟩) (bytesV zeros16) := by
  have h := (Bk.new w 5 (bytesV zeros16)).rd 16 0
  rw [List.drop_zero, List.take_of_length_le (by simp [bytesV, zeros16])] at h
  simpa using h
/-- The name in sixteen bytes. -/
def nameL (l : List UInt8) : List UInt8 := (l.drop 3).take (min (l.getD 0 0).toNat 13)
theorem rd_get {w : World} {B b o : Nat} {l : List UInt8} (h : Rd w B (some ⟨b, o, none⟩) (bytesV l)) (i : Nat) (hi : i < l.length) : w.cell? ⟨b, o + i, none⟩ = some (.int .u8 ((l.getD i 0).toNat : Int)) := by
  rcases h with h | ⟨b', o', h1, _, h3⟩
  · have : l = [] := by simpa [bytesV] using h
    subst this
    simp at hi
  · injection h1 with h1
    injection h1 with h1 h2 _
    subst h1 h2
    exact h3 i _ (by simp [bytesV, byteV, List.getD_eq_getElem?_getD, List.getElem?_eq_getElem hi])
theorem rd_at {w : World} {B : Nat} {A : Option Addr} {xs : List Value} (h : Rd w B A xs) (hx : xs ≠ []) : ∃ b o, A = some ⟨b, o, none⟩ ∧ b < B := by
  rcases h with h | ⟨b, o, h1, h2, _⟩
  · exact absurd h hx
  · exact ⟨b, o, h1, h2⟩
theorem rd_part {w : World} {B b o : Nat} {l : List UInt8} (h : Rd w B (some ⟨b, o, none⟩) (bytesV l)) (i k : Nat) : Rd w B (some ⟨b, o + i, none⟩) (bytesV ((l.drop i).take k)) := by
  rcases h with h | ⟨b', o', h1, h2, h3⟩
  · have : l = [] := by simpa [bytesV] using h
    subst this
    exact .inl (by simp [bytesV])
  · injection h1 with h1
    injection h1 with h1 h4 _
    subst h1 h4
    refine .inr ⟨b, o + i, rfl, h2, fun j u hu => ?_⟩
    rw [bytesV_take, bytesV_drop, List.getElem?_take] at hu
    split at hu
    · rw [Nat.add_assoc]
      exact h3 _ u (by rw [← hu, List.getElem?_drop])
    · cases hu
theorem bytesV_ne {l : List UInt8} {n : Nat} (h : l.length = n) (hn : 0 < n) : bytesV l ≠ [] := by
  intro he
  have : l = [] := by simpa [bytesV] using he
  subst this
  simp at h
  omega

end Go.Proofs.Ythpppkkagepomaa.Entry
