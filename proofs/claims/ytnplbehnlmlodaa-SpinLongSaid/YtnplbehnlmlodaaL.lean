/-
  Words of our own for memory: a slice that holds a list of bytes, a block that is known whole; a make, a conversion to a string.
-/
import Derived.Test.YtnplbehnlmlodaaC
import Derived.WalkKit
import Derived.WalkSpells
import Derived.Laws.AppendOwnNone
import Derived.Laws.CopyOwn
import Derived.Laws.IdiomStrings
import Derived.Deep.Draws
namespace Go.Proofs.Ytnplbehnlmlodaa
open Go.RowKit

def byteV (b : UInt8) : Value := .int .u8 (b.toNat : Int)
def bytesV (l : List UInt8) : List Value := l.map byteV
theorem length_bytesV (l : List UInt8) : (bytesV l).length = l.length := by simp [bytesV]
theorem bytesV_append (l m : List UInt8) : bytesV (l ++ m) = bytesV l ++ bytesV m := by simp [bytesV]
theorem bytesV_take (l : List UInt8) (k : Nat) : bytesV (l.take k) = (bytesV l).take k := by simp [bytesV, List.map_take]
theorem bytesV_drop (l : List UInt8) (k : Nat) : bytesV (l.drop k) = (bytesV l).drop k := by simp [bytesV, List.map_drop]
theorem bytesV_one (l : List UInt8) : ∀ u ∈ bytesV l, u.oneCell' = true := by
  intro u hu
  simp only [bytesV, List.mem_map] at hu
  obtain ⟨b, _, rfl⟩ := hu
  rfl
theorem bytesV_inj {l m : List UInt8} (h : bytesV l = bytesV m) : l = m := by
  unfold bytesV at h
  refine (List.map_inj_right fun a b hab => ?_).1 h
  unfold byteV at hab
  injection hab with _ h'
  exact UInt8.toNat_inj.1 (by omega)

/-- A slice at that address holds those values, and lies below a block. -/
def Rd (w : World) (B : Nat) (A : Option Addr) (xs : List Value) : Prop :=
  xs = [] ∨ ∃ b o, A = some ⟨b, o, none⟩ ∧ b < B ∧ ∀ j u, xs[j]? = some u → w.cell? ⟨b, o + j, none⟩ = some u

section
variable {w w' : World} {B : Nat} {A : Option Addr} {xs : List Value}
theorem Rd.keep (h : Rd w B A xs) (hk : ∀ p : Addr, p.block < B → w'.cell? p = w.cell? p) : Rd w' B A xs := by
  rcases h with h | ⟨b, o, h1, h2, h3⟩
  · exact .inl h
  · exact .inr ⟨b, o, h1, h2, fun j u hu => (hk _ h2).trans (h3 j u hu)⟩
theorem Rd.more {B' : Nat} (h : Rd w B A xs) (hB : B ≤ B') : Rd w B' A xs := by
  rcases h with h | ⟨b, o, h1, h2, h3⟩
  · exact .inl h
  · exact .inr ⟨b, o, h1, by omega, h3⟩
theorem Rd.below (h : Rd w B A xs) (hb : Below B w w') : Rd w' B A xs := h.keep fun _ hp => hb.cell hp
theorem Rd.take (h : Rd w B A xs) (k : Nat) : Rd w B A (xs.take k) := by
  rcases h with h | ⟨b, o, h1, h2, h3⟩
  · exact .inl (by simp [h])
  · exact .inr ⟨b, o, h1, h2, fun j u hu => h3 j u (by
      rw [List.getElem?_take] at hu
      split at hu
      · exact hu
      · cases hu)⟩
/-- What 'x[k:]' holds. -/
theorem Rd.drop (h : Rd w B A xs) {k c : Nat} (hk : k ≤ xs.length) (hc : xs.length ≤ c) : Rd w B (if c = k then A else A.map (·.add k)) (xs.drop k) := by
  rcases h with h | ⟨b, o, rfl, h2, h3⟩
  · exact .inl (by simp [h])
  · by_cases he : xs.length = k
    · exact .inl (by simp [he])
    · rw [if_neg (by omega)]
      exact .inr ⟨b, o + k, by simp [Addr.add_lit], h2, fun j u hu => by
        rw [Nat.add_assoc]
        exact h3 _ u (by rw [← hu, List.getElem?_drop])⟩
theorem Rd.drewN (h : Rd w B A xs) (n : Nat) : Rd (w.drewN n) B A xs := h
end

/-- A block that is known whole. -/
def Bk (w : World) (g : Nat) (e : TypeId) (xs : List Value) : Prop := w.heap[g]? = some (.cells xs.toArray e (0, 0))
section
variable {w w' : World} {g : Nat} {e : TypeId} {xs : List Value}
theorem Bk.lt (h : Bk w g e xs) : g < w.heap.size := by
  rcases Nat.lt_or_ge g w.heap.size with hlt | hge
  · exact hlt
  · unfold Bk at h; rw [Array.getElem?_eq_none hge] at h; cases h
theorem Bk.cell (h : Bk w g e xs) (i : Nat) : w.cell? ⟨g, i, none⟩ = xs[i]? := by
  rw [cell_of_row w g i xs.toArray e (0, 0) h]; simp
theorem Bk.frozen (h : Bk w g e xs) (i : Nat) : w.frozen? ⟨g, i, none⟩ = false := by
  unfold Bk at h
  simp [World.frozen?, h]
theorem Bk.new (w : World) (e : TypeId) (xs : List Value) : Bk (w.alloc (.cells xs.toArray e)) w.heap.size e xs := heap_alloc_new w _
theorem Bk.below {B : Nat} (h : Bk w g e xs) (hb : Below B w w') (hg : g < B) : Bk w' g e xs := (hb.block g hg).trans h
theorem Bk.grown {row : Option Nat} (h : Bk w g e xs) (hb : w.grownBy w' row) (hg : some g ≠ row) : Bk w' g e xs := (hb.block g h.lt hg).trans h
theorem Bk.set (h : Bk w g e xs) (i : Nat) (u : Value) : Bk (w.setCell ⟨g, i, none⟩ u) g e (xs.set i u) := by
  unfold Bk at h ⊢
  simp [World.setCell, Array.getElem?_modify, h]
theorem Bk.rd (h : Bk w g e xs) (n o : Nat) : Rd w w.heap.size (some ⟨g, o, none⟩) ((xs.drop o).take n) :=
  .inr ⟨g, o, rfl, h.lt, fun j u hu => by
    rw [h.cell, ← List.getElem?_drop]
    rw [List.getElem?_take] at hu
    split at hu
    · exact hu
    · cases hu⟩
theorem Bk.own {base : Nat} (h : Bk w g e xs) (n : Nat) (hn : xs.length = n) (hb : base ≤ g) (hm : n ≤ maxLen) : w.ownsRow base e 1 (.slice (some ⟨g, 0, none⟩) n n) n xs :=
  ⟨by simp [hn], .inr ⟨g, n, xs.toArray, rfl, hb, h, Nat.le_refl _, hm, by simp [hn], by rw [Nat.mul_one]; exact List.take_of_length_le (Nat.le_of_eq hn)⟩⟩
end

/-- 'string(x)', x a slice of bytes. -/
theorem run_str {P : Program} (w : World) (src dst e : TypeId) (hs : P.underlying src = some (.slice e)) (he : P.underlying e = some (.int .u8)) (hd : P.underlying dst = some .string)
    (B : Nat) (A : Option Addr) (n c : Nat) (l : List UInt8) (hn : l.length = n) (hr : Rd w B A (bytesV l)) :
    (convert src dst (.slice A n c)).run P w = .ok (.string ⟨l.toArray⟩) w := by
  subst hn
  cases A with
  | none =>
    have h0 : l = [] := by
      rcases hr with h | ⟨_, _, h, _⟩
      · simpa [bytesV] using h
      · cases h
    subst h0
    rw [run_convert_bytes_string w src dst e none _ c hs he hd]
    rfl
  | some ad =>
    refine run_convert_bytes_back w src dst e ad c l hs he hd fun j hj => ?_
    rcases hr with h | ⟨b, o, h, _, hc⟩
    · have h0 : l = [] := by simpa [bytesV] using h
      subst h0
      simp at hj
    · injection h with h
      subst h
      rw [Addr.add_lit]
      exact hc j _ (by simp [bytesV, byteV, hj])


theorem info5 : (Try.prog.info? 5).map (fun i => (i.zero, i.size, i.bytes)) = some (some (.int .u8 0), 1, 1) := by kernel_rfl
theorem make_bytes (n : Nat) (h : n ≤ 65536) (u : World) : (Instr.makeSlice 37 (.int .i64 (n : Int)) (.int .i64 (n : Int))).run Try.prog u =
    .ok (.slice (some ⟨u.heap.size, 0, none⟩) n n) (u.alloc (.cells (bytesV (List.replicate n 0)).toArray 5)) := by
  obtain ⟨i0, hi, hz0, hz1, hz2⟩ := info_parts info5
  have hr := run_make (P := Try.prog) u 37 5 i0 (.int .u8 0) Try.underlying37 hi hz0 .i64 .i64 (n : Int) (n : Int) (by omega) (Int.le_refl _) (by rw [hz2]; omega) (by omega)
  have e : (madeCells (Value.int .u8 0).cells (n * i0.size)) = (bytesV (List.replicate n 0)).toArray := by
    apply Array.ext'
    rw [hz1, Nat.mul_one]
    have := toList_madeCells_one (.int .u8 0) n
    simp [bytesV, byteV] at this ⊢
    exact this
  simp only [Int.toNat_natCast, e] at hr
  exact hr
theorem str_of {w : World} {B : Nat} {A : Option Addr} {n c : Nat} {l : List UInt8} (hn : l.length = n) (hr : Rd w B A (bytesV l)) : (convert 37 9 (.slice A n c)).run Try.prog w = .ok (.string ⟨l.toArray⟩) w :=
  run_str w 37 9 5 Try.underlying37 Try.underlying5 Try.underlying9 B A n c l hn hr
end Go.Proofs.Ytnplbehnlmlodaa
