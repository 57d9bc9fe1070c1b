/-
  Plain facts on little-endian numbers: what bytes stand for, and the bytes of a number. No program occurs here.
-/
import Derived.Laws.BitsAllLaws
import Derived.Laws.Bits64
import Derived.Laws.BitsLemmas
import Derived.Below
import Derived.WalkKit
import Derived.WalkSpells
import Derived.Laws.AppendOwnNone
import Derived.Laws.CopyOwn
import Derived.Deep.Draws
import Derived.Test.YtcjkbmmjpkghlaaGreatRows
import Derived.BigQuiet
import Derived.Deep.QuietTactic
import Derived.Lib.Hide
import Derived.Scope
import Derived.WalkMore
import Derived.Lib.AppendZeros
import Derived.Deep.DeepAppendRoom
import Derived.Deep.RegionHeld3
import Derived.ProofKit
import Derived.OpenShut
namespace Go.Proofs.YtcjkbmmjpkghlaaGreat
open Go.RowKit

/-- The number whose bytes those are, the least one first. -/
def le : List UInt8 → Nat
  | [] => 0
  | b :: r => b.toNat + 256 * le r

/-- A number's bytes, so many. -/
def digs (n : Nat) : Nat → List UInt8
  | 0 => []
  | k + 1 => UInt8.ofNat (n % 256) :: digs (n / 256) k

theorem length_digs (n k : Nat) : (digs n k).length = k := by
  induction k generalizing n with
  | zero => rfl
  | succ k ih => simp [digs, ih]

theorem le_lt (l : List UInt8) : le l < 256 ^ l.length := by
  induction l with
  | nil => simp [le]
  | cons b r ih =>
    have := b.toNat_lt
    simp only [le, List.length_cons, Nat.pow_succ]
    omega

theorem le_append (a b : List UInt8) : le (a ++ b) = le a + 256 ^ a.length * le b := by
  induction a with
  | nil => simp [le]
  | cons x r ih =>
    simp only [List.cons_append, le, ih, List.length_cons, Nat.pow_succ, Nat.mul_add]
    have : 256 * (256 ^ r.length * le b) = 256 ^ r.length * 256 * le b := by rw [← Nat.mul_assoc, Nat.mul_comm 256]
    omega

theorem le_take_succ (l : List UInt8) (j : Nat) (h : j < l.length) : le (l.take (j + 1)) = le (l.take j) + 256 ^ j * l[j].toNat := by
  rw [List.take_succ_eq_append_getElem h, le_append]
  simp [le, Nat.min_eq_left (Nat.le_of_lt h)]

theorem pow_le8 (k : Nat) (h : k ≤ 8) : 256 ^ k ≤ 18446744073709551616 := by
  have : 256 ^ k ≤ 256 ^ 8 := Nat.pow_le_pow_right (by omega) h
  simpa using this

theorem le_lt64 (l : List UInt8) (h : l.length ≤ 8) : le l < 18446744073709551616 := by
  have := le_lt l
  have := pow_le8 l.length h
  omega

theorem le_digs (n k : Nat) : le (digs n k) = n % 256 ^ k := by
  induction k generalizing n with
  | zero => simp [digs, le, Nat.mod_one]
  | succ k ih =>
    have h1 : (UInt8.ofNat (n % 256)).toNat = n % 256 := by simp
    simp only [digs, le, ih, h1, Nat.pow_succ]
    rw [Nat.mul_comm (256 ^ k) 256, Nat.mod_mul]

theorem le_digs_of_lt (n k : Nat) (h : n < 256 ^ k) : le (digs n k) = n := by rw [le_digs, Nat.mod_eq_of_lt h]

theorem digs_le (l : List UInt8) : digs (le l) l.length = l := by
  induction l with
  | nil => rfl
  | cons b r ih =>
    have hb := b.toNat_lt
    have h1 : (b.toNat + 256 * le r) % 256 = b.toNat := by omega
    have h2 : (b.toNat + 256 * le r) / 256 = le r := by omega
    simp only [List.length_cons, digs, le, h1, h2, ih]
    simp

theorem two_pow_eq (j : Nat) : 2 ^ (8 * j) = 256 ^ j := by rw [Nat.pow_mul]

theorem getElem?_digs (n k i : Nat) (h : i < k) : (digs n k)[i]? = some (UInt8.ofNat (n / 256 ^ i % 256)) := by
  induction k generalizing n i with
  | zero => omega
  | succ k ih =>
    cases i with
    | zero => simp [digs]
    | succ i =>
      simp only [digs, List.getElem?_cons_succ]
      rw [ih _ _ (by omega), Nat.div_div_eq_div_mul, Nat.pow_succ, Nat.mul_comm 256]

theorem digs_succ (n k : Nat) : digs n (k + 1) = digs n k ++ [UInt8.ofNat (n / 256 ^ k % 256)] := by
  induction k generalizing n with
  | zero => simp [digs]
  | succ k ih =>
    rw [digs, ih, digs]
    simp [Nat.div_div_eq_div_mul, Nat.pow_succ, Nat.mul_comm]

/-- One round of load. -/
theorem load_step (l : List UInt8) (j : Nat) (h : j < l.length) (h8 : j < 8) :
    bits .or .u64 (le (l.take j) : Int) (IntKind.u64.wrap (IntKind.u64.wrap (l[j].toNat : Int) * 2 ^ (8 * j))) = (le (l.take (j + 1)) : Int) := by
  have hb := l[j].toNat_lt
  have hp : 256 ^ (j + 1) ≤ 18446744073709551616 := pow_le8 _ (by omega)
  have h1 : le (l.take j) < 256 ^ j := by
    have := le_lt (l.take j)
    rwa [List.length_take, Nat.min_eq_left (Nat.le_of_lt h)] at this
  have h2 : l[j].toNat * 256 ^ j < 256 ^ (j + 1) := by
    rw [Nat.pow_succ, Nat.mul_comm]
    exact Nat.mul_lt_mul_of_pos_left hb (Nat.pow_pos (by omega))
  have e1 : IntKind.u64.wrap (l[j].toNat : Int) = (l[j].toNat : Int) := by rw [IntKind.wrap_u64]; omega
  have e2 : ((l[j].toNat : Int) * 2 ^ (8 * j)) = ((l[j].toNat * 256 ^ j : Nat) : Int) := by
    rw [← two_pow_eq]; simp
  have e3 : IntKind.u64.wrap ((l[j].toNat * 256 ^ j : Nat) : Int) = ((l[j].toNat * 256 ^ j : Nat) : Int) := by rw [IntKind.wrap_u64]; omega
  have h3 : 256 ^ j ≤ 18446744073709551616 := pow_le8 _ (by omega)
  rw [e1, e2, e3, u64_or_nat _ _ (by omega) (by omega)]
  have e4 : le (l.take j) ||| l[j].toNat * 256 ^ j = le (l.take j) + 256 ^ j * l[j].toNat := by
    have := Nat.two_pow_add_eq_or_of_lt (i := 8 * j) (b := le (l.take j)) (by rw [two_pow_eq]; exact h1) l[j].toNat
    rw [two_pow_eq] at this
    rw [Nat.or_comm, Nat.mul_comm, ← this, Nat.add_comm]
  rw [e4, le_take_succ l j h]

/-- Does a number stand in so many bytes? -/
def fitB (n size : Nat) : Bool := decide (n < 256 ^ size)

theorem fit_shift (n size : Nat) : (((n : Int) / 2 ^ (8 * size)) == 0) = fitB n size := by
  have e : ((n : Int) / 2 ^ (8 * size)) = ((n / 256 ^ size : Nat) : Int) := by rw [← two_pow_eq]; simp
  rw [e, Bool.eq_iff_iff, beq_iff_eq]
  have hp : 0 < 256 ^ size := Nat.pow_pos (by omega)
  have h1 : n / 256 ^ size = 0 ↔ n < 256 ^ size := by rw [Nat.div_eq_zero_iff]; omega
  simp only [fitB, decide_eq_true_eq]
  rw [← h1]
  omega

theorem fit8 (n : Nat) (h : n < 18446744073709551616) : fitB n 8 = true := by simp [fitB]; omega

theorem fit_lt (n size : Nat) : decide ((n : Int) < 256 ^ size) = fitB n size := by
  rw [Bool.eq_iff_iff]
  have e : (256 : Int) ^ size = ((256 ^ size : Nat) : Int) := by simp
  simp only [fitB, decide_eq_true_eq]
  rw [e]
  omega

theorem power_step (j : Nat) (h : j + 1 ≤ 7) : IntKind.u64.wrap ((256 : Int) ^ j * 256) = ((256 ^ (j + 1) : Nat) : Int) := by
  have h1 : 256 ^ (j + 1) ≤ 256 ^ 7 := Nat.pow_le_pow_right (by omega) h
  have h2 : (256 : Nat) ^ 7 < 18446744073709551616 := by decide
  have e : (256 : Int) ^ j * 256 = ((256 ^ (j + 1) : Nat) : Int) := by rw [Nat.pow_succ]; simp
  rw [e, IntKind.wrap_u64]
  generalize 256 ^ (j + 1) = q at *
  omega

/-- One round of At. -/
theorem at_step (T : List UInt8) (i : Nat) (b : UInt8) (h : T[i]? = some b) (h8 : T.length ≤ 8) :
    IntKind.u64.wrap (IntKind.u64.wrap ((le (T.drop (i + 1)) : Int) * 256) + IntKind.u64.wrap (b.toNat : Int)) = (le (T.drop i) : Int) := by
  obtain ⟨hi, rfl⟩ := List.getElem?_eq_some_iff.1 h
  have e : T.drop i = T[i] :: T.drop (i + 1) := List.drop_eq_getElem_cons hi
  have h1 := le_lt64 (T.drop i) (by simp; omega)
  rw [e] at h1 ⊢
  simp only [le] at h1 ⊢
  have hb := T[i].toNat_lt
  rw [IntKind.wrap_u64, IntKind.wrap_u64, IntKind.wrap_u64]
  omega

/-- A list with another one laid over it, from a place on. -/
def put {α : Type} (l : List α) (o : Nat) (d : List α) : List α := l.take o ++ d ++ l.drop (o + d.length)
theorem length_put {α : Type} (l : List α) (o : Nat) (d : List α) (h : o + d.length ≤ l.length) : (put l o d).length = l.length := by
  simp [put]; omega
theorem put_nil {α : Type} (l : List α) (o : Nat) : put l o [] = l := by simp [put]
theorem put_snoc {α : Type} (l : List α) (o : Nat) (d : List α) (x : α) (k : Nat) (hk : k = o + d.length) (h : k < l.length) : (put l o d).set k x = put l o (d ++ [x]) := by
  subst hk
  have e : l.drop (o + d.length) = l[o + d.length] :: l.drop (o + d.length + 1) := List.drop_eq_getElem_cons h
  have hl : (l.take o ++ d).length = o + d.length := by simp; omega
  unfold put
  rw [e, List.set_append_right _ _ (by omega), hl]
  simp [List.append_assoc, Nat.add_assoc]
theorem map_put {α β : Type} (f : α → β) (l : List α) (o : Nat) (d : List α) : (put l o d).map f = put (l.map f) o (d.map f) := by
  simp [put, List.map_take, List.map_drop]
theorem put_all {α : Type} (l d : List α) (h : d.length = l.length) : put l 0 d = d := by
  simp [put, h]

/-- Numbers, one behind the other, in so many bytes each. -/
def layl (size : Nat) : List Nat → List UInt8
  | [] => []
  | n :: r => digs n size ++ layl size r
theorem length_layl (size : Nat) (L : List Nat) : (layl size L).length = L.length * size := by
  induction L with
  | nil => simp [layl]
  | cons n r ih => simp [layl, ih, length_digs, Nat.add_mul]; omega
theorem layl_append (size : Nat) (L K : List Nat) : layl size (L ++ K) = layl size L ++ layl size K := by
  induction L with
  | nil => rfl
  | cons n r ih => simp [layl, ih]
theorem layl_take_succ (size : Nat) (L : List Nat) (j : Nat) (h : j < L.length) : layl size (L.take (j + 1)) = layl size (L.take j) ++ digs L[j] size := by
  rw [List.take_succ_eq_append_getElem h, layl_append]
  simp [layl]
/-- Those of the first ones, and bytes 0 for the others. -/
def filled (size : Nat) (L : List Nat) (j : Nat) : List UInt8 := layl size (L.take j) ++ List.replicate ((L.length - j) * size) 0
theorem filled_zero (size : Nat) (L : List Nat) : filled size L 0 = List.replicate (L.length * size) 0 := by simp [filled, layl]
theorem filled_all (size : Nat) (L : List Nat) : filled size L L.length = layl size L := by simp [filled]
theorem length_filled (size : Nat) (L : List Nat) (j : Nat) (h : j ≤ L.length) : (filled size L j).length = L.length * size := by
  have e : L.length * size = j * size + (L.length - j) * size := by rw [← Nat.add_mul]; congr 1; omega
  simp [filled, length_layl, Nat.min_eq_left h, e]
theorem filled_step (size : Nat) (L : List Nat) (j : Nat) (h : j < L.length) : put (filled size L j) (j * size) (digs L[j] size) = filled size L (j + 1) := by
  have hl : (layl size (L.take j)).length = j * size := by simp [length_layl, Nat.min_eq_left (Nat.le_of_lt h)]
  have e : (L.length - j) * size - size = (L.length - (j + 1)) * size := by
    rw [show L.length - j = (L.length - (j + 1)) + 1 by omega, Nat.add_mul]; omega
  have h1 : (filled size L j).take (j * size) = layl size (L.take j) := by
    unfold filled; rw [← hl]; exact List.take_left
  have h2 : (filled size L j).drop (j * size + size) = List.replicate ((L.length - (j + 1)) * size) 0 := by
    unfold filled
    rw [← List.drop_drop, ← hl, List.drop_left, List.drop_replicate, e]
  unfold put
  rw [length_digs, h1, h2, ← layl_take_succ size L j h]
  rfl

/-- The numbers that stand in bytes, in so many bytes each. -/
def takel (size : Nat) (l : List UInt8) : List Nat := (List.range (l.length / size)).map fun k => le ((l.drop (k * size)).take size)
theorem length_takel (size : Nat) (l : List UInt8) : (takel size l).length = l.length / size := by simp [takel]
theorem getElem?_takel (size : Nat) (l : List UInt8) (j : Nat) (h : j < l.length / size) : (takel size l)[j]? = some (le ((l.drop (j * size)).take size)) := by
  simp [takel, h]
theorem takel_take_succ (size : Nat) (l : List UInt8) (j : Nat) (h : j < l.length / size) : (takel size l).take (j + 1) = (takel size l).take j ++ [le ((l.drop (j * size)).take size)] := by
  have h' : j < (takel size l).length := by rw [length_takel]; exact h
  rw [List.take_succ_eq_append_getElem h']
  have := getElem?_takel size l j h
  rw [List.getElem?_eq_getElem h'] at this
  injection this with this
  rw [this]
theorem takel_layl (size : Nat) (hs : 1 ≤ size) (L : List Nat) (hf : ∀ x ∈ L, fitB x size = true) : takel size (layl size L) = L := by
  have hdiv : (L.length * size) / size = L.length := Nat.mul_div_cancel _ (by omega)
  apply List.ext_getElem?
  intro j
  by_cases hj : j < L.length
  · rw [getElem?_takel _ _ _ (by rw [length_layl, hdiv]; exact hj), List.getElem?_eq_getElem hj]
    congr 1
    have e : layl size L = layl size (L.take j) ++ (digs L[j] size ++ layl size (L.drop (j + 1))) := by
      have h1 := layl_append size (L.take (j + 1)) (L.drop (j + 1))
      rw [List.take_append_drop] at h1
      rw [h1, layl_take_succ size L j hj, List.append_assoc]
    have hl : (layl size (L.take j)).length = j * size := by simp [length_layl, Nat.min_eq_left (Nat.le_of_lt hj)]
    have h2 : (layl size L).drop (j * size) = digs L[j] size ++ layl size (L.drop (j + 1)) := by rw [e, ← hl]; exact List.drop_left
    have h3 : ((layl size L).drop (j * size)).take size = digs L[j] size := by
      rw [h2]
      have := List.take_left (l₁ := digs L[j] size) (l₂ := layl size (L.drop (j + 1)))
      rwa [length_digs] at this
    rw [h3]
    have := hf L[j] (List.getElem_mem hj)
    simp only [fitB, decide_eq_true_eq] at this
    exact le_digs_of_lt _ _ this
  · rw [List.getElem?_eq_none (by rw [length_takel, length_layl, hdiv]; omega), List.getElem?_eq_none (by omega)]

def layB (size : Nat) (L : List Nat) : Bool := decide (L.length * size ≤ 4096) && L.all (fitB · size)

end Go.Proofs.YtcjkbmmjpkghlaaGreat

/-
  Words of our own for memory: a slice that holds a list of values (nil too), a block that is known whole, a row of the call's own; and what append and a conversion to a string do to them.
-/
namespace Go.Proofs.YtcjkbmmjpkghlaaGreat
open Go.RowKit

def byteV (b : UInt8) : Value := .int .u8 (b.toNat : Int)
def numV (n : Nat) : Value := .int .u64 (n : Int)
def bytesV (l : List UInt8) : List Value := l.map byteV
def numsV (l : List Nat) : List Value := l.map numV
theorem length_bytesV (l : List UInt8) : (bytesV l).length = l.length := by simp [bytesV]
theorem length_numsV (l : List Nat) : (numsV l).length = l.length := by simp [numsV]
theorem bytesV_append (l m : List UInt8) : bytesV (l ++ m) = bytesV l ++ bytesV m := by simp [bytesV]
theorem numsV_append (l m : List Nat) : numsV (l ++ m) = numsV l ++ numsV m := by simp [numsV]
theorem bytesV_take (l : List UInt8) (k : Nat) : bytesV (l.take k) = (bytesV l).take k := by simp [bytesV, List.map_take]
theorem bytesV_drop (l : List UInt8) (k : Nat) : bytesV (l.drop k) = (bytesV l).drop k := by simp [bytesV, List.map_drop]
theorem numsV_take (l : List Nat) (k : Nat) : numsV (l.take k) = (numsV l).take k := by simp [numsV, List.map_take]
theorem numsV_drop (l : List Nat) (k : Nat) : numsV (l.drop k) = (numsV l).drop k := by simp [numsV, List.map_drop]
theorem bytesV_one (l : List UInt8) : ∀ u ∈ bytesV l, u.oneCell' = true := by
  intro u hu
  simp only [bytesV, List.mem_map] at hu
  obtain ⟨b, _, rfl⟩ := hu
  rfl
theorem numsV_one (l : List Nat) : ∀ u ∈ numsV l, u.oneCell' = true := by
  intro u hu
  simp only [numsV, List.mem_map] at hu
  obtain ⟨b, _, rfl⟩ := hu
  rfl
theorem bytesV_inj {l m : List UInt8} (h : bytesV l = bytesV m) : l = m := by
  unfold bytesV at h
  refine (List.map_inj_right fun a b hab => ?_).1 h
  unfold byteV at hab
  injection hab with _ h'
  exact UInt8.toNat_inj.1 (by omega)

/-- A slice at that address holds those values, and lies below a block. -/
def Rd (w : World) (B : Nat) (A : Option Addr) (xs : List Value) : Prop :=
  xs = [] ∨ ∃ b o, A = some ⟨b, o, none⟩ ∧ b < B ∧ ∀ j u, xs[j]? = some u → w.cell? ⟨b, o + j, none⟩ = some u

section
variable {w w' : World} {B : Nat} {A : Option Addr} {xs : List Value}
theorem Rd.keep (h : Rd w B A xs) (hk : ∀ p : Addr, p.block < B → w'.cell? p = w.cell? p) : Rd w' B A xs := by
  rcases h with h | ⟨b, o, h1, h2, h3⟩
  · exact .inl h
  · exact .inr ⟨b, o, h1, h2, fun j u hu => (hk _ h2).trans (h3 j u hu)⟩
theorem Rd.more {B' : Nat} (h : Rd w B A xs) (hB : B ≤ B') : Rd w B' A xs := by
  rcases h with h | ⟨b, o, h1, h2, h3⟩
  · exact .inl h
  · exact .inr ⟨b, o, h1, by omega, h3⟩
theorem Rd.below (h : Rd w B A xs) (hb : Below B w w') : Rd w' B A xs := h.keep fun _ hp => hb.cell hp
theorem Rd.take (h : Rd w B A xs) (k : Nat) : Rd w B A (xs.take k) := by
  rcases h with h | ⟨b, o, h1, h2, h3⟩
  · exact .inl (by simp [h])
  · exact .inr ⟨b, o, h1, h2, fun j u hu => h3 j u (by
      rw [List.getElem?_take] at hu
      split at hu
      · exact hu
      · cases hu)⟩
/-- What 'x[k:]' holds. -/
theorem Rd.drop (h : Rd w B A xs) {k c : Nat} (hk : k ≤ xs.length) (hc : xs.length ≤ c) : Rd w B (if c = k then A else A.map (·.add k)) (xs.drop k) := by
  rcases h with h | ⟨b, o, rfl, h2, h3⟩
  · exact .inl (by simp [h])
  · by_cases he : xs.length = k
    · exact .inl (by simp [he])
    · rw [if_neg (by omega)]
      exact .inr ⟨b, o + k, by simp [Addr.add_lit], h2, fun j u hu => by
        rw [Nat.add_assoc]
        exact h3 _ u (by rw [← hu, List.getElem?_drop])⟩
theorem Rd.drewN (h : Rd w B A xs) (n : Nat) : Rd (w.drewN n) B A xs := h
end

/-- A block that is known whole. -/
def Bk (w : World) (g : Nat) (e : TypeId) (xs : List Value) : Prop := w.heap[g]? = some (.cells xs.toArray e (0, 0))
section
variable {w w' : World} {g : Nat} {e : TypeId} {xs : List Value}
theorem Bk.lt (h : Bk w g e xs) : g < w.heap.size := by
  rcases Nat.lt_or_ge g w.heap.size with hlt | hge
  · exact hlt
  · unfold Bk at h; rw [Array.getElem?_eq_none hge] at h; cases h
theorem Bk.cell (h : Bk w g e xs) (i : Nat) : w.cell? ⟨g, i, none⟩ = xs[i]? := by
  rw [cell_of_row w g i xs.toArray e (0, 0) h]; simp
theorem Bk.frozen (h : Bk w g e xs) (i : Nat) : w.frozen? ⟨g, i, none⟩ = false := by
  unfold Bk at h
  simp [World.frozen?, h]
theorem Bk.new (w : World) (e : TypeId) (xs : List Value) : Bk (w.alloc (.cells xs.toArray e)) w.heap.size e xs := heap_alloc_new w _
theorem Bk.below {B : Nat} (h : Bk w g e xs) (hb : Below B w w') (hg : g < B) : Bk w' g e xs := (hb.block g hg).trans h
theorem Bk.grown {row : Option Nat} (h : Bk w g e xs) (hb : w.grownBy w' row) (hg : some g ≠ row) : Bk w' g e xs := (hb.block g h.lt hg).trans h
theorem Bk.set (h : Bk w g e xs) (i : Nat) (u : Value) : Bk (w.setCell ⟨g, i, none⟩ u) g e (xs.set i u) := by
  unfold Bk at h ⊢
  simp [World.setCell, Array.getElem?_modify, h]
theorem Bk.rd (h : Bk w g e xs) (n o : Nat) : Rd w w.heap.size (some ⟨g, o, none⟩) ((xs.drop o).take n) :=
  .inr ⟨g, o, rfl, h.lt, fun j u hu => by
    rw [h.cell, ← List.getElem?_drop]
    rw [List.getElem?_take] at hu
    split at hu
    · exact hu
    · cases hu⟩
theorem Bk.own {base : Nat} (h : Bk w g e xs) (n : Nat) (hn : xs.length = n) (hb : base ≤ g) (hm : n ≤ maxLen) : w.ownsRow base e 1 (.slice (some ⟨g, 0, none⟩) n n) n xs :=
  ⟨by simp [hn], .inr ⟨g, n, xs.toArray, rfl, hb, h, Nat.le_refl _, hm, by simp [hn], by rw [Nat.mul_one]; exact List.take_of_length_le (Nat.le_of_eq hn)⟩⟩
end

theorem only_set {a w : World} {g : Nat} (h : a.grownBy w (some g)) (i : Nat) (u : Value) : a.grownBy (w.setCell ⟨g, i, none⟩ u) (some g) :=
  ⟨h.os, h.tape, h.output, by simpa [World.setCell] using h.size, fun k hk hne => (Below.heap_setCell w _ u k (by rintro rfl; exact hne rfl)).trans (h.block k hk hne)⟩
theorem below_of_only {a w : World} {g B : Nat} (h : a.grownBy w (some g)) (hB : B ≤ a.heap.size) (hg : B ≤ g) : Below B a w :=
  (Below.refl B a).grown h hB (by rintro k hk; injection hk with hk; omega)

/-- An own row, read. -/
theorem own_rd {w : World} {base : Nat} {e : TypeId} {v : Value} {n : Nat} {xs : List Value} (h : w.ownsRow base e 1 v n xs) :
    xs.length = n ∧ ∃ A c, v = .slice A n c ∧ n ≤ c ∧ c ≤ maxLen ∧ Rd w w.heap.size A xs := by
  refine ⟨by simpa using h.1, ?_⟩
  rcases h.2 with ⟨rfl, rfl⟩ | ⟨g, cap, cur, rfl, hb, hg, h1, h2, h3, h4⟩
  · exact ⟨none, 0, rfl, Nat.le_refl _, Nat.zero_le _, .inl (List.eq_nil_of_length_eq_zero (by simpa using h.1))⟩
  · refine ⟨_, cap, rfl, h1, h2, .inr ⟨g, 0, rfl, ?_, fun j u hu => ?_⟩⟩
    · rcases Nat.lt_or_ge g w.heap.size with hlt | hge
      · exact hlt
      · rw [Array.getElem?_eq_none hge] at hg; cases hg
    · have hj : j < n * 1 := by have := (List.getElem?_eq_some_iff.1 hu).1; have := h.1; omega
      rw [Nat.zero_add, h.cellAt j hj, hu]

theorem run_app_none {P : Program} (w : World) (base : Nat) (t ty e : TypeId) (i : TypeInfo) (ht : P.underlying t = some (.slice e)) (hi : P.info? e = some i)
    (v : Value) (n : Nat) (xs : List Value) (hown : w.ownsRow base e 1 v n xs) (c : Nat) : (Builtin.append_ #[t, t] ty #[v, .slice none 0 c]).run P w = .ok v w := by
  rcases hown.2 with ⟨rfl, rfl⟩ | ⟨g, cap, cur, rfl, _, _, hnc, _⟩
  · simp [Builtin.append_, run_underlying ht, sizeOf, typeInfo, hi, Builtin.lenOf, Builtin.firstCells]
  · simp [Builtin.append_, run_underlying ht, sizeOf, typeInfo, hi, Builtin.lenOf, Builtin.firstCells, hnc, storeCells]

/-- 'append(v, x...)', v a row of the call's own, x any slice that holds a list. -/
theorem run_app {P : Program} (w : World) (base : Nat) (t ty e : TypeId) (i : TypeInfo) (z : Value) (bytes : Nat) (ht : P.underlying t = some (.slice e)) (hi : P.info? e = some i) (hz : i.zero = some z)
    (hsize : i.size = 1) (hby : i.bytes = bytes) (hzs : z.cells.size = 1) (v : Value) (n : Nat) (xs : List Value) (hown : w.ownsRow base e 1 v n xs)
    (B : Nat) (A : Option Addr) (m c : Nat) (news : List Value) (hm : news.length = m) (hr : Rd w B A news) (h1 : ∀ u ∈ news, u.oneCell' = true)
    (h63 : n + m ≤ maxLen) (hbytes : (n + m) * bytes ≤ 140737488355328) (hbase : base ≤ w.heap.size) :
    ∃ v' w', (Builtin.append_ #[t, t] ty #[v, .slice A m c]).run P w = .ok v' w' ∧ w'.ownsRow base e 1 v' (n + m) (xs ++ news) ∧ w.grownBy w' v.ownBlock := by
  cases A with
  | none =>
    have hn : news = [] := by
      rcases hr with h | ⟨_, _, h, _⟩
      · exact h
      · cases h
    subst hn
    obtain rfl : m = 0 := by simpa using hm.symm
    exact ⟨v, w, run_app_none w base t ty e i ht hi v n xs hown c, by simpa using hown, World.grownBy.refl w _⟩
  | some ad =>
    obtain ⟨v', w', hrun, h2, h3, _⟩ := run_append_own (P := P) w base t ty e i z 1 bytes ht hi hz hsize hby hzs (by omega) v n xs hown ad m c news (by simpa using hm) (by
      rcases hr with h | ⟨b, o, h, _, hc⟩
      · subst h
        intro j u hu
        simp at hu
      · injection h with h
        subst h
        intro j u hu
        rw [Addr.add_lit]
        exact hc j u hu) h1 h63 hbytes hbase
    exact ⟨v', w', hrun, h2, h3⟩

theorem wpList_app {P : Program} (w : World) {ops : Array Oper} {rest : List Oper} {o : Oper} {a : Act} {Q : Exit → Act → World → Prop} (hgd : o.guard = none) (s x : Operand) (t : TypeId)
    (ho : o.op = .call { callee := .builtin .append, args := #[s, x], argTypes := #[t, t] })
    (base : Nat) (e : TypeId) (i : TypeInfo) (z : Value) (bytes : Nat) (ht : P.underlying t = some (.slice e)) (hi : P.info? e = some i) (hz : i.zero = some z)
    (hsize : i.size = 1) (hby : i.bytes = bytes) (hzs : z.cells.size = 1) (v : Value) (n : Nat) (xs : List Value) (hs : a.eval s = v) (hown : w.ownsRow base e 1 v n xs)
    (B : Nat) (A : Option Addr) (m c : Nat) (news : List Value) (hx : a.eval x = .slice A m c) (hm : news.length = m) (hr : Rd w B A news) (h1 : ∀ u ∈ news, u.oneCell' = true)
    (h63 : n + m ≤ maxLen) (hbytes : (n + m) * bytes ≤ 140737488355328) (hbase : base ≤ w.heap.size)
    (h : ∀ v' w', w'.ownsRow base e 1 v' (n + m) (xs ++ news) → w.grownBy w' v.ownBlock → wpList P ops Q rest (a.put o.dst v') w') : wpList P ops Q (o :: rest) a w := by
  refine wpList_plain hgd fun K hK => ?_
  obtain ⟨v', w', hrun, h2, h3⟩ := run_app (P := P) w base t o.type e i z bytes ht hi hz hsize hby hzs v n xs hown B A m c news hm hr h1 h63 hbytes hbase
  unfold Oper.wp execOp
  simp only [ho, resolve, invoke, builtin, Sem.run_bind, Sem.run_pure, Result.andThen_ok, List.map_toArray, List.map_cons, List.map_nil, hs, hx, hrun]
  exact hK _ _ (h v' w' h2 h3)

/-- 'string(x)', x a slice of bytes. -/
theorem run_str {P : Program} (w : World) (src dst e : TypeId) (hs : P.underlying src = some (.slice e)) (he : P.underlying e = some (.int .u8)) (hd : P.underlying dst = some .string)
    (B : Nat) (A : Option Addr) (n c : Nat) (l : List UInt8) (hn : l.length = n) (hr : Rd w B A (bytesV l)) :
    (convert src dst (.slice A n c)).run P w = .ok (.string ⟨l.toArray⟩) w := by
  subst hn
  cases A with
  | none =>
    have h0 : l = [] := by
      rcases hr with h | ⟨_, _, h, _⟩
      · simpa [bytesV] using h
      · cases h
    subst h0
    rw [run_convert_bytes_string w src dst e none _ c hs he hd]
    rfl
  | some ad =>
    refine run_convert_bytes_back w src dst e ad c l hs he hd fun j hj => ?_
    rcases hr with h | ⟨b, o, h, _, hc⟩
    · have h0 : l = [] := by simpa [bytesV] using h
      subst h0
      simp at hj
    · injection h with h
      subst h
      rw [Addr.add_lit]
      exact hc j _ (by simp [bytesV, byteV, hj])

theorem own_pos {w : World} {base : Nat} {e : TypeId} {size : Nat} {v : Value} {n : Nat} {xs : List Value} (h : w.ownsRow base e size v n xs) (hn : 0 < n) : ∃ g c, v = .slice (some ⟨g, 0, none⟩) n c ∧ n ≤ c := by
  rcases h.2 with ⟨_, h0⟩ | ⟨g, cap, _, hv, _, _, hc, _⟩
  · omega
  · exact ⟨g, cap, hv, hc⟩
theorem own_rdp {w : World} {base : Nat} {e : TypeId} {A : Option Addr} {c : Nat} {n : Nat} {xs : List Value} (h : w.ownsRow base e 1 (.slice A n c) n xs) : Rd w w.heap.size A xs := by
  obtain ⟨_, A', c', hv, _, _, hr⟩ := own_rd h
  injection hv with h1
  subst h1
  exact hr
theorem own_mono {w : World} {base base' : Nat} {e : TypeId} {size : Nat} {v : Value} {n : Nat} {xs : List Value} (h : w.ownsRow base e size v n xs) (hb : base' ≤ base) : w.ownsRow base' e size v n xs := by
  refine ⟨h.1, ?_⟩
  rcases h.2 with h | ⟨g, cap, cur, h1, h2, h3⟩
  · exact .inl h
  · exact .inr ⟨g, cap, cur, h1, by omega, h3⟩
theorem own_below {w w' : World} {base : Nat} {e : TypeId} {size : Nat} {v : Value} {n : Nat} {xs : List Value} (h : w.ownsRow base e size v n xs) (hb : Below w.heap.size w w') : w'.ownsRow base e size v n xs :=
  h.kept (row := none) ⟨hb.os, hb.tape, hb.output, hb.size, fun k hk _ => hb.block k hk⟩ (by
    cases h' : v.ownBlock with
    | none => exact .inl rfl
    | some k => exact .inr (by simp))
theorem put_splice {α : Type} (l : List α) (o : Nat) (d : List α) : splice l o d = put l o d := by simp [splice, put]
theorem bytesV_put (l : List UInt8) (o : Nat) (d : List UInt8) : bytesV (put l o d) = put (bytesV l) o (bytesV d) := map_put _ _ _ _

end Go.Proofs.YtcjkbmmjpkghlaaGreat

/-
  The small functions of package field and of the document's own answer (tests of sizes and places, powers of 256, the number that stands at a place): what each call returns.
-/
namespace Go.Proofs.YtcjkbmmjpkghlaaGreat
open Go.RowKit

theorem isSize_true (n : Int) (w : World) (h1 : 1 ≤ n) (h2 : n ≤ 8) :
    Calls Tryz.prog 190 #[.int .i64 n] w fun e w' => e = .returned (.bool true) ∧ w = w' := by
  go_enter Tryz.func190, Tryz.ntmps190
  go_wp2
  go_ret
  exact ⟨rfl, rfl⟩
theorem isSize_false (n : Int) (w : World) (h : ¬ (1 ≤ n ∧ n ≤ 8)) :
    Calls Tryz.prog 190 #[.int .i64 n] w fun e w' => e = .returned (.bool false) ∧ w = w' := by
  by_cases h1 : 1 ≤ n
  · have h2 : ¬ n ≤ 8 := fun h2 => h ⟨h1, h2⟩
    clear h
    go_enter Tryz.func190, Tryz.ntmps190
    go_wp2
    go_ret
    exact ⟨rfl, rfl⟩
  · clear h
    go_enter Tryz.func190, Tryz.ntmps190
    go_wp2
    go_ret
    exact ⟨rfl, rfl⟩

theorem fits_any (n size : Nat) (w : World) (_h1 : n < 18446744073709551616) (hs : 1 ≤ size) (hs2 : size ≤ 8) :
    Calls Tryz.prog 191 #[.int .u64 n, .int .i64 size] w fun e w' => e = .returned (.bool (fitB n size)) ∧ w = w' := by
  go_enter Tryz.func191, Tryz.ntmps191
  go_wp2
  go_ret
  exact ⟨by rw [← fit_shift]; rfl, rfl⟩

theorem within_true (A : Option Addr) (n c : Nat) (at_ size : Int) (w : World) (h1 : 1 ≤ size) (h2 : size ≤ 8) (h3 : 0 ≤ at_) (h4 : at_ ≤ n - size) (hn : n ≤ 9223372036854775807) :
    Calls Tryz.prog 208 #[.slice A n c, .int .i64 at_, .int .i64 size] w fun e w' => e = .returned (.bool true) ∧ w = w' := by
  go_enter Tryz.func208, Tryz.ntmps208
  go_wp2_with (go_at_call 190; refine (isSize_true _ _ h1 h2).mono ?_; rintro e w' ⟨rfl, rfl⟩)
  go_ret
  exact ⟨rfl, rfl⟩
theorem within_false (A : Option Addr) (n c : Nat) (at_ size : Int) (w : World) (h : ¬ (1 ≤ size ∧ size ≤ 8 ∧ 0 ≤ at_ ∧ at_ ≤ n - size)) (hn : n ≤ 9223372036854775807) :
    Calls Tryz.prog 208 #[.slice A n c, .int .i64 at_, .int .i64 size] w fun e w' => e = .returned (.bool false) ∧ w = w' := by
  by_cases h1 : 1 ≤ size ∧ size ≤ 8
  · obtain ⟨h1, h2⟩ := h1
    by_cases h3 : 0 ≤ at_
    · have h4 : ¬ (at_ ≤ n - size) := fun h4 => h ⟨h1, h2, h3, h4⟩
      have h5 : decide (at_ ≤ n - size) = false := decide_eq_false h4
      clear h
      go_enter Tryz.func208, Tryz.ntmps208
      go_wp2_with (go_at_call 190; refine (isSize_true _ _ h1 h2).mono ?_; rintro e w' ⟨rfl, rfl⟩)
      go_ret
      exact ⟨rfl, rfl⟩
    · clear h
      go_enter Tryz.func208, Tryz.ntmps208
      go_wp2_with (go_at_call 190; refine (isSize_true _ _ h1 h2).mono ?_; rintro e w' ⟨rfl, rfl⟩)
      go_ret
      exact ⟨rfl, rfl⟩
  · clear h
    have H := Lib.hid h1
    clear h1
    go_enter Tryz.func208, Tryz.ntmps208
    go_wp2_with (go_at_call 190; refine (isSize_false _ _ H.out).mono ?_; rintro e w' ⟨rfl, rfl⟩)
    go_ret
    exact ⟨rfl, rfl⟩

set_option maxHeartbeats 400000 in
theorem load_any (l : List UInt8) (A : Option Addr) (n c : Nat) (B : Nat) (size : Nat) (w : World) (hn : l.length = n) (hr : Rd w B A (bytesV l)) (hs : size ≤ n) (hs8 : size ≤ 8) (hs1 : 1 ≤ size) :
    Calls Tryz.prog 207 #[.slice A n c, .int .i64 size] w fun e w' => e = .returned (.int .u64 (le (l.take size) : Nat)) ∧ w = w' := by
  rcases hr with h | ⟨b, o, rfl, hb, hc⟩
  · exfalso; simp [bytesV] at h; subst h; simp at hn; omega
  have Hn := Lib.hid hn
  clear hn
  go_enter Tryz.func207, Tryz.ntmps207
  go_wp2
  go_loop [5, 8] (fun x k => ∃ j : Nat, j ≤ size ∧ k = .int .i64 j ∧ x = .int .u64 (le (l.take j) : Nat)) (fun _ k => size - (intOf k).toNat)
  case atStart => exact ⟨0, Nat.zero_le _, rfl, rfl⟩
  case round =>
    obtain ⟨j, hj, rfl, rfl⟩ := hrel
    by_cases hlt : j < size
    · have hjl : j < l.length := by have := Hn.out; omega
      have hcell : w.cell? ⟨b, o + j, none⟩ = some (.int .u8 (l[j].toNat : Int)) := hc j _ (by simp [bytesV, byteV]; exact ⟨_, List.getElem?_eq_getElem _, rfl⟩)
      have HS := Lib.hid (load_step l j hjl (by omega))
      clear hc
      go_wp2
      go_round
      case rel => exact ⟨j + 1, by omega, by go_num, by rw [HS.out]⟩
      case measure => simp [intOf]; omega
    · go_wp2
      go_ret
      have : j = size := by omega
      subst this
      exact ⟨rfl, rfl⟩

end Go.Proofs.YtcjkbmmjpkghlaaGreat

/-
  Package field's and the document's own functions that make bytes (store, padded, Num, Get, Set, few): what each call returns, and what it leaves.
-/
namespace Go.Proofs.YtcjkbmmjpkghlaaGreat
open Go.RowKit

theorem info5 : (Tryz.prog.info? 5).map (fun i => (i.zero, i.size, i.bytes)) = some (some (.int .u8 0), 1, 1) := by kernel_rfl
theorem size5 : (Tryz.prog.info? 5).map (·.size) = some 1 := by kernel_rfl

theorem byte_wrap (n j : Nat) : IntKind.u8.wrap ((n : Int) / 2 ^ (8 * j)) = ((UInt8.ofNat (n / 256 ^ j % 256)).toNat : Int) := by
  have e : ((n : Int) / 2 ^ (8 * j)) = ((n / 256 ^ j : Nat) : Int) := by rw [← two_pow_eq]; simp
  rw [e, IntKind.wrap_u8]
  simp

/-- What stands in a block while a number is stored. -/
def Storing (w : World) (g : Nat) (l : List UInt8) (off n j : Nat) (wr : World) : Prop :=
  Bk wr g 5 (bytesV (put l off (digs n j))) ∧ w.grownBy wr (some g)

theorem storing_step {w wr : World} {g : Nat} {l : List UInt8} {off n j : Nat} (h : Storing w g l off n j wr) (hj : off + j < l.length) :
    Storing w g l off n (j + 1) (wr.setCell ⟨g, off + j, none⟩ (.int .u8 (IntKind.u8.wrap ((n : Int) / 2 ^ (8 * j))))) := by
  refine ⟨?_, only_set h.2 _ _⟩
  have h1 := h.1.set (off + j) (byteV (UInt8.ofNat (n / 256 ^ j % 256)))
  have e : (bytesV (put l off (digs n j))).set (off + j) (byteV (UInt8.ofNat (n / 256 ^ j % 256))) = bytesV (put l off (digs n (j + 1))) := by
    rw [bytesV_put, bytesV_put, put_snoc _ _ _ _ _ (by simp [length_bytesV, length_digs]) (by simpa [length_bytesV] using hj), digs_succ, bytesV_append]
    rfl
  rw [e] at h1
  rw [byte_wrap]
  exact h1
theorem storing_cell {w wr : World} {g : Nat} {l : List UInt8} {off n j : Nat} (h : Storing w g l off n j wr) (hj : off + j < l.length) :
    (∃ v, wr.cell? ⟨g, off + j, none⟩ = some v) ∧ wr.frozen? ⟨g, off + j, none⟩ = false := by
  refine ⟨?_, h.1.frozen _⟩
  rw [h.1.cell]
  have hl : off + j < (bytesV (put l off (digs n j))).length := by rw [length_bytesV, length_put _ _ _ (by rw [length_digs]; omega)]; exact hj
  exact ⟨_, List.getElem?_eq_getElem hl⟩

set_option maxHeartbeats 400000 in
theorem store_any (l : List UInt8) (g off len cap size n : Nat) (w : World) (hb : Bk w g 5 (bytesV l)) (hl : off + len ≤ l.length) (hs : size ≤ len) (hs8 : size ≤ 8) :
    Calls Tryz.prog 192 #[.slice (some ⟨g, off, none⟩) len cap, .int .i64 size, .int .u64 n] w fun e w' => e = .returned (.tuple #[]) ∧ Storing w g l off n size w' := by
  go_enter Tryz.func192, Tryz.ntmps192
  go_wp2
  go_loopw [8] (fun k wr => ∃ j : Nat, j ≤ size ∧ k = .int .i64 j ∧ Storing w g l off n j wr) (fun k _ => size - (intOf k).toNat)
  case atStart => exact ⟨0, Nat.zero_le _, rfl, by rw [show digs n 0 = [] from rfl, put_nil]; exact hb, World.grownBy.refl _ _⟩
  case round =>
    obtain ⟨j, hj, rfl, hst⟩ := hrel
    by_cases hlt : j < size
    · have hstep := storing_step hst (by omega)
      obtain ⟨⟨v, hcell⟩, hfr⟩ := storing_cell hst (by omega)
      clear hst
      go_wp2
      go_roundw
      case rel => exact ⟨j + 1, by omega, by go_num, hstep⟩
      case measure => simp [intOf]; omega
    · go_wp2
      go_end0
      obtain rfl : j = size := by omega
      exact ⟨rfl, hst⟩

theorem make_bytes (n : Nat) (h : n ≤ 65536) (u : World) : (Instr.makeSlice 37 (.int .i64 (n : Int)) (.int .i64 (n : Int))).run Tryz.prog u =
    .ok (.slice (some ⟨u.heap.size, 0, none⟩) n n) (u.alloc (.cells (bytesV (List.replicate n 0)).toArray 5)) := by
  obtain ⟨i0, hi, hz0, hz1, hz2⟩ := info_parts info5
  have hr := run_make (P := Tryz.prog) u 37 5 i0 (.int .u8 0) Tryz.underlying37 hi hz0 .i64 .i64 (n : Int) (n : Int) (by omega) (Int.le_refl _) (by rw [hz2]; omega) (by omega)
  have e : (madeCells (Value.int .u8 0).cells (n * i0.size)) = (bytesV (List.replicate n 0)).toArray := by
    apply Array.ext'
    rw [hz1, Nat.mul_one]
    have := toList_madeCells_one (.int .u8 0) n
    simp [bytesV, byteV] at this ⊢
    exact this
  simp only [Int.toNat_natCast, e] at hr
  exact hr

/-- What padded makes. -/
def padl (l : List UInt8) (size : Nat) : List UInt8 := l ++ List.replicate (size - l.length) 0
theorem padl_put (l : List UInt8) (size : Nat) : put (List.replicate size 0) 0 l = padl l size := by
  simp [put, padl]
theorem padl_self (l : List UInt8) : padl l l.length = l := by simp [padl]
theorem length_padl (l : List UInt8) (size : Nat) (h : l.length ≤ size) : (padl l size).length = size := by simp [padl]; omega

/-- What padded leaves: a new block that holds the bytes. -/
def Padded (w : World) (l : List UInt8) (size : Nat) (w' : World) : Prop := Bk w' w.heap.size 5 (bytesV (padl l size)) ∧ Below w.heap.size w w'

set_option maxHeartbeats 400000 in
theorem padded_any (l : List UInt8) (A : Option Addr) (n c size : Nat) (w : World) (hn : l.length = n) (hr : Rd w w.heap.size A (bytesV l)) (hs : n ≤ size) (hm : size ≤ 65536) :
    Calls Tryz.prog 193 #[.slice A n c, .int .i64 size] w fun e w' => e = .returned (.slice (some ⟨w.heap.size, 0, none⟩) size size) ∧ Padded w l size w' := by
  have hmk := make_bytes size hm
  have hbk := Bk.new w 5 (bytesV (List.replicate size 0))
  have hbel : Below w.heap.size w (w.alloc (.cells (bytesV (List.replicate size 0)).toArray 5)) := (Below.refl _ _).alloc (Nat.le_refl _) _
  have hsrc := hr.below hbel
  have H := Lib.hid hbk
  have Hn := Lib.hid hn
  clear hbk hr hn
  go_enter Tryz.func193, Tryz.ntmps193
  go_wp2_with (refine wpList_copy_splice rfl (.tmp 8) (.tmp 9) 37 37 rfl 5 Tryz.underlying37 size5 _ _ _ _ _ _ rfl rfl w.heap.size 0 (bytesV (List.replicate size 0)) 5 H.out (bytesV l) ?c1 ?c2 ?c3 (bytesV_one l) w.heap.size w hbel (Nat.le_refl _) ?_)
  case c1 => rw [length_bytesV, Hn.out]; exact (Nat.min_eq_left hs).symm
  case c2 =>
    intro hpos
    rcases hsrc with h | ⟨b, o, rfl, _, hc⟩
    · rw [h] at hpos; simp at hpos
    · exact ⟨_, rfl, fun j v hj => by rw [Addr.add_lit]; exact hc j v hj⟩
  case c3 => rw [length_bytesV, length_bytesV, List.length_replicate, Hn.out]; omega
  intro w' hb' hbel'
  go_wp2
  go_ret
  refine ⟨rfl, ?_, hbel'⟩
  have := hb'.out
  rw [put_splice, ← bytesV_put, padl_put l size] at this
  exact this

set_option maxHeartbeats 400000 in
theorem get_ok (l : List UInt8) (A : Option Addr) (n c : Nat) (B : Nat) (at_ size : Nat) (w : World) (hn : l.length = n) (hr : Rd w B A (bytesV l)) (hc : n ≤ c) (hs : at_ + size ≤ n) (hs8 : size ≤ 8) (hs1 : 1 ≤ size) (hm : n ≤ 9223372036854775807) :
    Calls Tryz.prog 176 #[.slice A n c, .int .i64 at_, .int .i64 size] w fun e w' => e = .returned (.tuple #[.int .u64 (le ((l.drop at_).take size) : Nat), .int .i64 0]) ∧ w = w' := by
  have hd := hr.drop (k := at_) (c := c) (by rw [length_bytesV]; omega) (by rw [length_bytesV]; omega)
  rw [← bytesV_drop] at hd
  have hd' : Rd w B (A.map (·.add at_)) (bytesV (l.drop at_)) := by
    rw [if_neg (by omega)] at hd; exact hd
  have hln : (l.drop at_).length = n - at_ := by rw [List.length_drop, hn]
  have H := Lib.hid hln
  clear hln hn hd hr
  go_enter Tryz.func176, Tryz.ntmps176
  go_wp2_with (first
    | (go_at_call 208; refine (within_true _ _ _ _ _ _ (by omega) (by omega) (by omega) (by omega) hm).mono ?_; rintro e w' ⟨rfl, rfl⟩)
    | (go_at_call 207; refine (load_any (l.drop at_) _ _ _ B size _ H.out hd' (by omega) hs8 hs1).mono ?_; rintro e w' ⟨rfl, rfl⟩))
  go_ret2
  exact ⟨rfl, rfl⟩
theorem get_arg (A : Option Addr) (n c : Nat) (at_ size : Int) (w : World) (h : ¬ (1 ≤ size ∧ size ≤ 8 ∧ 0 ≤ at_ ∧ at_ ≤ n - size)) (hm : n ≤ 9223372036854775807) :
    Calls Tryz.prog 176 #[.slice A n c, .int .i64 at_, .int .i64 size] w fun e w' => e = .returned (.tuple #[.int .u64 0, .int .i64 1]) ∧ w = w' := by
  have H := Lib.hid h
  clear h
  go_enter Tryz.func176, Tryz.ntmps176
  go_wp2_with (first
    | (go_at_call 208; refine (within_false _ _ _ _ _ _ H.out hm).mono ?_; rintro e w' ⟨rfl, rfl⟩))
  go_ret2
  exact ⟨rfl, rfl⟩

/-- A new row of bytes is handed back, and nothing that was there is changed. -/
def Made (w : World) (l : List UInt8) (v : Value) (w' : World) : Prop := w'.ownsRow w.heap.size 5 1 v l.length (bytesV l) ∧ Below w.heap.size w w'

set_option maxHeartbeats 400000 in
theorem set_ok (l : List UInt8) (A : Option Addr) (n c : Nat) (at_ size x : Nat) (w : World) (hn : l.length = n) (hr : Rd w w.heap.size A (bytesV l)) (hs : at_ + size ≤ n) (hs8 : size ≤ 8) (hs1 : 1 ≤ size) (hm : n ≤ 65536)
    (hx : x < 18446744073709551616) (hf : fitB x size = true) :
    Calls Tryz.prog 203 #[.slice A n c, .int .i64 at_, .int .i64 size, .int .u64 x] w fun e w' => ∃ v, e = .returned (.tuple #[v, .int .i64 0]) ∧ Made w (put l at_ (digs x size)) v w' := by
  have H := Lib.hid hn
  have Hf := Lib.hid hf
  clear hn hf
  go_enter Tryz.func203, Tryz.ntmps203
  go_wp2_with (first
    | (go_at_call 208; refine (within_true _ _ _ _ _ _ (by omega) (by omega) (by omega) (by omega) (by omega)).mono ?_; rintro e w' ⟨rfl, rfl⟩)
    | (go_at_call 191; refine (fits_any x size _ hx hs1 hs8).mono ?_; rintro e w' ⟨rfl, rfl⟩; rw [Hf.out])
    | (go_at_call 193; refine (padded_any l _ _ _ _ _ H.out hr (Nat.le_refl _) hm).mono ?_; rintro e w1 ⟨rfl, hp⟩))
  have hb := hp.1
  have hbe := hp.2
  have e : padl l n = l := by have := H.out; subst this; exact padl_self l
  rw [e] at hb
  clear hp e
  go_wp2_with (first
    | (go_at_call 192; refine (store_any l w.heap.size at_ (n - at_) _ size x _ hb (by have := H.out; omega) (by omega) hs8).mono ?_; rintro e w2 ⟨rfl, hst⟩))
  go_ret2
  have hl : (put l at_ (digs x size)).length = n := by rw [length_put _ _ _ (by rw [length_digs, H.out]; omega), H.out]
  refine ⟨_, rfl, ?_, hbe.trans (below_of_only hst.2 hbe.size (Nat.le_refl _))⟩
  rw [hl]
  exact hst.1.own n (by rw [length_bytesV, hl]) (Nat.le_refl _) (by simp only [maxLen]; omega)
theorem set_arg (A : Option Addr) (n c : Nat) (at_ size x : Int) (w : World) (h : ¬ (1 ≤ size ∧ size ≤ 8 ∧ 0 ≤ at_ ∧ at_ ≤ n - size)) (hm : n ≤ 9223372036854775807) :
    Calls Tryz.prog 203 #[.slice A n c, .int .i64 at_, .int .i64 size, .int .u64 x] w fun e w' => e = .returned (.tuple #[.slice none 0 0, .int .i64 1]) ∧ w = w' := by
  have H := Lib.hid h
  clear h
  go_enter Tryz.func203, Tryz.ntmps203
  go_wp2_with (first
    | (go_at_call 208; refine (within_false _ _ _ _ _ _ H.out hm).mono ?_; rintro e w' ⟨rfl, rfl⟩))
  go_ret2
  exact ⟨rfl, rfl⟩
theorem set_long (A : Option Addr) (n c : Nat) (at_ size x : Nat) (w : World) (hs : at_ + size ≤ n) (hs8 : size ≤ 8) (hs1 : 1 ≤ size) (hm : n ≤ 9223372036854775807)
    (hx : x < 18446744073709551616) (hf : fitB x size = false) :
    Calls Tryz.prog 203 #[.slice A n c, .int .i64 at_, .int .i64 size, .int .u64 x] w fun e w' => e = .returned (.tuple #[.slice none 0 0, .int .i64 4]) ∧ w = w' := by
  have Hf := Lib.hid hf
  clear hf
  go_enter Tryz.func203, Tryz.ntmps203
  go_wp2_with (first
    | (go_at_call 208; refine (within_true _ _ _ _ _ _ (by omega) (by omega) (by omega) (by omega) hm).mono ?_; rintro e w' ⟨rfl, rfl⟩)
    | (go_at_call 191; refine (fits_any x size _ hx hs1 hs8).mono ?_; rintro e w' ⟨rfl, rfl⟩; rw [Hf.out]))
  go_ret2
  exact ⟨rfl, rfl⟩

/-- append onto an own row of bytes. -/
theorem wpList_app5 (w : World) {ops : Array Oper} {rest : List Oper} {o : Oper} {a : Act} {Q : Exit → Act → World → Prop} (hgd : o.guard = none) (s x : Operand)
    (ho : o.op = .call { callee := .builtin .append, args := #[s, x], argTypes := #[37, 37] })
    (base : Nat) (v : Value) (n : Nat) (l : List UInt8) (hs : a.eval s = v) (hown : w.ownsRow base 5 1 v n (bytesV l))
    (B : Nat) (A : Option Addr) (m c : Nat) (k : List UInt8) (hx : a.eval x = .slice A m c) (hm : k.length = m) (hr : Rd w B A (bytesV k))
    (hbytes : n + m ≤ 140737488355328) (hbase : base ≤ w.heap.size)
    (h : ∀ v' w', w'.ownsRow base 5 1 v' (n + m) (bytesV (l ++ k)) → w.grownBy w' v.ownBlock → wpList Tryz.prog ops Q rest (a.put o.dst v') w') : wpList Tryz.prog ops Q (o :: rest) a w := by
  obtain ⟨i0, hi, hz0, hz1, hz2⟩ := info_parts info5
  rw [bytesV_append] at h
  exact wpList_app w hgd s x 37 ho base 5 i0 _ 1 Tryz.underlying37 hi hz0 hz1 hz2 rfl v n _ hs hown B A m c _ hx (by rw [length_bytesV, hm]) hr (bytesV_one _) (by simp only [maxLen]; omega) (by omega) hbase h

end Go.Proofs.YtcjkbmmjpkghlaaGreat

/-
  A check sum of two parts modulo 65521, plainly: what bytes do to it, that one other byte or two unlike neighbours changed about lead to another sum, what bytes 0 do; no memory and no program.
-/
namespace Go.Proofs.YtcjkbmmjpkghlaaGreat

def aStep (s : Nat × Nat) (c : UInt8) : Nat × Nat := ((s.1 + c.toNat) % 65521, (s.2 + (s.1 + c.toNat) % 65521) % 65521)
def aMore (s : Nat × Nat) (l : List UInt8) : Nat × Nat := l.foldl aStep s
def aWord (s : Nat × Nat) : Nat := s.2 * 65536 + s.1
/-- The halves of a sum, each modulo 65521. -/
def aPair (n : Nat) : Nat × Nat := (n % 65536 % 65521, n / 65536 % 65521)
def sumMore (n : Nat) (l : List UInt8) : Nat := aWord (aMore (aPair n) l)
def sumOf (l : List UInt8) : Nat := sumMore 1 l
def aOk (s : Nat × Nat) : Prop := s.1 < 65521 ∧ s.2 < 65521

theorem aMore_append (s : Nat × Nat) (l m : List UInt8) : aMore s (l ++ m) = aMore (aMore s l) m := by simp [aMore]
theorem aMore_snoc (s : Nat × Nat) (l : List UInt8) (c : UInt8) : aMore s (l ++ [c]) = aStep (aMore s l) c := by rw [aMore_append]; rfl
theorem aOk_step (s : Nat × Nat) (c : UInt8) : aOk (aStep s c) := ⟨Nat.mod_lt _ (by decide), Nat.mod_lt _ (by decide)⟩
theorem aOk_more {s : Nat × Nat} (h : aOk s) (l : List UInt8) : aOk (aMore s l) := by
  induction l generalizing s with
  | nil => exact h
  | cons c l ih => exact ih (aOk_step s c)
theorem aOk_pair (n : Nat) : aOk (aPair n) := ⟨Nat.mod_lt _ (by decide), Nat.mod_lt _ (by decide)⟩
theorem aWord_lt {s : Nat × Nat} (h : aOk s) : aWord s < 4294967296 := by
  obtain ⟨h1, h2⟩ := h
  unfold aWord; omega
theorem aPair_word {s : Nat × Nat} (h : aOk s) : aPair (aWord s) = s := by
  obtain ⟨h1, h2⟩ := h
  unfold aPair aWord
  refine Prod.ext ?_ ?_
  · show (s.2 * 65536 + s.1) % 65536 % 65521 = s.1; omega
  · show (s.2 * 65536 + s.1) / 65536 % 65521 = s.2; omega
theorem aWord_inj {s t : Nat × Nat} (hs : aOk s) (ht : aOk t) (h : aWord s = aWord t) : s = t := by
  rw [← aPair_word hs, h, aPair_word ht]
theorem sumMore_lt (n : Nat) (l : List UInt8) : sumMore n l < 4294967296 := aWord_lt (aOk_more (aOk_pair n) l)
/-- The sum of bytes, some behind others. -/
theorem sumMore_append (n : Nat) (l m : List UInt8) : sumMore n (l ++ m) = sumMore (sumMore n l) m := by
  unfold sumMore
  rw [aMore_append, aPair_word (aOk_more (aOk_pair n) l)]
theorem sumOf_append (l m : List UInt8) : sumOf (l ++ m) = sumMore (sumOf l) m := sumMore_append 1 l m

theorem aStep_inj {s t : Nat × Nat} (hs : aOk s) (ht : aOk t) (c : UInt8) (h : aStep s c = aStep t c) : s = t := by
  obtain ⟨h1, h2⟩ := hs
  obtain ⟨k1, k2⟩ := ht
  have hx := congrArg Prod.fst h
  have hy := congrArg Prod.snd h
  simp only [aStep] at hx hy
  have e1 : s.1 = t.1 := by omega
  have e2 : s.2 = t.2 := by rw [e1] at hy; omega
  exact Prod.ext e1 e2
theorem aMore_inj (l : List UInt8) : ∀ {s t : Nat × Nat}, aOk s → aOk t → aMore s l = aMore t l → s = t := by
  induction l with
  | nil => intro s t _ _ h; exact h
  | cons c l ih => intro s t hs ht h; exact aStep_inj hs ht c (ih (aOk_step s c) (aOk_step t c) h)
theorem aStep_byte {s : Nat × Nat} (c d : UInt8) (h : aStep s c = aStep s d) : c = d := by
  have hx := congrArg Prod.fst h
  simp only [aStep] at hx
  have hc := c.toNat_lt
  have hd := d.toNat_lt
  exact UInt8.toNat_inj.1 (by omega)
theorem aStep_swap {s : Nat × Nat} (c d : UInt8) (h : aStep (aStep s c) d = aStep (aStep s d) c) : c = d := by
  have hy := congrArg Prod.snd h
  simp only [aStep] at hy
  have hc := c.toNat_lt
  have hd := d.toNat_lt
  exact UInt8.toNat_inj.1 (by omega)
theorem sum_byte (n : Nat) (l r : List UInt8) (c d : UInt8) : sumMore n (l ++ c :: r) = sumMore n (l ++ d :: r) ↔ c = d := by
  constructor
  · intro h
    have h' := aWord_inj (aOk_more (aOk_pair n) _) (aOk_more (aOk_pair n) _) h
    rw [aMore_append, aMore_append] at h'
    exact aStep_byte c d (aMore_inj r (aOk_step _ c) (aOk_step _ d) h')
  · rintro rfl; rfl
theorem sum_swap (n : Nat) (l r : List UInt8) (c d : UInt8) : sumMore n (l ++ c :: d :: r) = sumMore n (l ++ d :: c :: r) ↔ c = d := by
  constructor
  · intro h
    have h' := aWord_inj (aOk_more (aOk_pair n) _) (aOk_more (aOk_pair n) _) h
    rw [aMore_append, aMore_append] at h'
    exact aStep_swap c d (aMore_inj r (aOk_step _ d) (aOk_step _ c) h')
  · rintro rfl; rfl
/-- What bytes 0 do: the lower part stays, the higher one goes up by it, as often. -/
theorem aMore_zeros {s : Nat × Nat} (h : aOk s) (k : Nat) : aMore s (List.replicate k 0) = (s.1, (s.2 + k * s.1) % 65521) := by
  induction k with
  | zero =>
    refine Prod.ext rfl ?_
    show s.2 = (s.2 + 0 * s.1) % 65521
    rw [Nat.zero_mul, Nat.add_zero, Nat.mod_eq_of_lt h.2]
  | succ k ih =>
    rw [List.replicate_succ', aMore_snoc, ih]
    have h1 := h.1
    have e : ((0 : UInt8).toNat) = 0 := rfl
    refine Prod.ext ?_ ?_
    · show (s.1 + (0 : UInt8).toNat) % 65521 = s.1
      rw [e]; omega
    · show ((s.2 + k * s.1) % 65521 + (s.1 + (0 : UInt8).toNat) % 65521) % 65521 = (s.2 + (k + 1) * s.1) % 65521
      rw [e, Nat.succ_mul]
      omega
theorem sum_zeros (n k : Nat) : sumMore n (List.replicate k 0) = ((n / 65536 % 65521 + k * (n % 65536 % 65521) % 65521) % 65521) * 65536 + n % 65536 % 65521 := by
  unfold sumMore
  rw [aMore_zeros (aOk_pair n)]
  show ((n / 65536 % 65521 + k * (n % 65536 % 65521)) % 65521) * 65536 + n % 65536 % 65521 = _
  omega
end Go.Proofs.YtcjkbmmjpkghlaaGreat

/-
  A scope with two labels: the run jumps back to the first one as often as it likes, and on to the second one, from which it leaves: what holds at either jump, and a measure that every pass from the first lowers.
-/
namespace Go.Proofs.YtcjkbmmjpkghlaaGreat
open Go

/-- As Q; by a goto to the first label: J; by one to the second: K; by any other: no way out. -/
def jumps (l : Nat) (J : Act → World → Prop) (m : Nat) (K : Act → World → Prop) (Q : Exit → Act → World → Prop) : Exit → Act → World → Prop
  | .goto i, a, w => (i = l ∧ J a w) ∨ (i = m ∧ K a w)
  | e, a, w => Q e a w
section
variable {P : Program} {a : Act} {w : World} {Q : Exit → Act → World → Prop}
theorem jumps_ret (l : Nat) (J : Act → World → Prop) (m : Nat) (K : Act → World → Prop) (a : Act) (w : World) : jumps l J m K Q .ret a w = Q .ret a w := rfl
theorem jumps_normal (l : Nat) (J : Act → World → Prop) (m : Nat) (K : Act → World → Prop) (a : Act) (w : World) : jumps l J m K Q .normal a w = Q .normal a w := rfl
theorem wp_scope_labels {c r1 r2 : Code} (l m : Nat) (J K : Act → World → Prop) (μ : Act → World → Nat) (hf1 : findLabel c l = some r1) (hf2 : findLabel c m = some r2)
    (start : c.wp P (jumps l J m K Q) a w)
    (pass : ∀ a w, J a w → r1.wp P (jumps l (fun a' w' => J a' w' ∧ μ a' w' < μ a w) m K Q) a w)
    (last : ∀ a w, K a w → r2.wp P (jumps l (fun _ _ => False) m (fun _ _ => False) Q) a w) : (Code.scope c).wp P Q a w := by
  intro b k cs
  have hg1 : gotoIn l (.inScope c :: k) = some (.code r1 :: .inScope c :: k) := by simp [gotoIn, hf1]
  have hg2 : gotoIn m (.inScope c :: k) = some (.code r2 :: .inScope c :: k) := by simp [gotoIn, hf2]
  have fin : ∀ a w, K a w → ∃ e a' w', Q e a' w' ∧ Arrives P (lone (b.at a (.code r2 :: .inScope c :: k)) cs w) b k cs e a' w' := by
    intro a w hK
    obtain ⟨e, a1, w1, hq, harr⟩ := last a w hK b (.inScope c :: k) cs
    cases e with
    | normal => exact ⟨.normal, a1, w1, hq, Steps.trans harr (.one step_inScope)⟩
    | exit id => exact ⟨.exit id, a1, w1, hq, fun k' hk => harr k' (by simp [exitTo, hk])⟩
    | goto i => rcases hq with ⟨_, h⟩ | ⟨_, h⟩ <;> exact h.elim
    | ret => exact ⟨_, a1, w1, hq, harr⟩
    | panic ch => exact ⟨_, a1, w1, hq, harr⟩
    | outgrown => exact ⟨_, a1, w1, hq, harr⟩
  have key : ∀ n a w, μ a w = n → J a w → ∃ e a' w', Q e a' w' ∧ Arrives P (lone (b.at a (.code r1 :: .inScope c :: k)) cs w) b k cs e a' w' := by
    intro n
    induction n using Nat.strongRecOn with
    | _ n ih =>
      intro a w hn hJ
      obtain ⟨e, a1, w1, hq, harr⟩ := pass a w hJ b (.inScope c :: k) cs
      cases e with
      | normal => exact ⟨.normal, a1, w1, hq, Steps.trans harr (.one step_inScope)⟩
      | exit id => exact ⟨.exit id, a1, w1, hq, fun k' hk => harr k' (by simp [exitTo, hk])⟩
      | goto i =>
        rcases hq with ⟨rfl, hJ', hlt⟩ | ⟨rfl, hK⟩
        · obtain ⟨e2, a2, w2, hq2, harr2⟩ := ih _ (by omega) a1 w1 rfl hJ'
          exact ⟨e2, a2, w2, hq2, .of_steps (harr _ hg1) harr2⟩
        · obtain ⟨e2, a2, w2, hq2, harr2⟩ := fin a1 w1 hK
          exact ⟨e2, a2, w2, hq2, .of_steps (harr _ hg2) harr2⟩
      | ret => exact ⟨_, a1, w1, hq, harr⟩
      | panic ch => exact ⟨_, a1, w1, hq, harr⟩
      | outgrown => exact ⟨_, a1, w1, hq, harr⟩
  obtain ⟨e, a1, w1, hq, harr⟩ := start b (.inScope c :: k) cs
  cases e with
  | normal => exact ⟨.normal, a1, w1, hq, .head step_scope (Steps.trans harr (.one step_inScope))⟩
  | exit id => exact ⟨.exit id, a1, w1, hq, fun k' hk => .head step_scope (harr k' (by simp [exitTo, hk]))⟩
  | goto i =>
    rcases hq with ⟨rfl, hJ'⟩ | ⟨rfl, hK⟩
    · obtain ⟨e2, a2, w2, hq2, harr2⟩ := key _ a1 w1 rfl hJ'
      exact ⟨e2, a2, w2, hq2, .of_steps (.head step_scope (harr _ hg1)) harr2⟩
    · obtain ⟨e2, a2, w2, hq2, harr2⟩ := fin a1 w1 hK
      exact ⟨e2, a2, w2, hq2, .of_steps (.head step_scope (harr _ hg2)) harr2⟩
  | ret => exact ⟨_, a1, w1, hq, .of_steps (.one step_scope) harr⟩
  | panic ch => exact ⟨_, a1, w1, hq, .of_steps (.one step_scope) harr⟩
  | outgrown => exact ⟨_, a1, w1, hq, .of_steps (.one step_scope) harr⟩
end
end Go.Proofs.YtcjkbmmjpkghlaaGreat

/-
  The check sum of bytes, by the program (a loop by goto) and by the document's own answer, and the first bytes of many: what each call returns.
-/
namespace Go.Proofs.YtcjkbmmjpkghlaaGreat
open Go.RowKit

/-- What holds at a label: so many bytes are summed. -/
def Summed (w : World) (s : Nat) (A : Option Addr) (n c : Nat) (l : List UInt8) (k : Nat) (a : Act) (w' : World) : Prop :=
  w' = w ∧ ∃ (lo hi : Nat) (u8 u9 u10 u11 u12 u13 u14 u15 u16 u17 u18 u19 u20 u21 u22 u23 u24 u25 u26 u27 u28 u29 u30 u31 : Value), a = { tmps := #[.int .u32 s, .slice A n c, undef, undef, .int .u32 0, .int .u32 (lo : Nat), .int .u32 (hi : Nat), .int .i64 (k : Nat), u8, u9, u10, u11, u12, u13, u14, u15, u16, u17, u18, u19, u20, u21, u22, u23, u24, u25, u26, u27, u28, u29, u30, u31, undef, undef, undef, undef], defers := [] } ∧ lo < 65521 ∧ hi < 65521 ∧ aMore (aPair s) (l.take k) = (lo, hi)

theorem aMore_next {s : Nat × Nat} {l : List UInt8} {k lo hi : Nat} (h : aMore s (l.take k) = (lo, hi)) {x : UInt8} (hx : l[k]? = some x) :
    aMore s (l.take (k + 1)) = ((lo + x.toNat) % 65521, (hi + (lo + x.toNat) % 65521) % 65521) := by
  obtain ⟨hk, rfl⟩ := List.getElem?_eq_some_iff.1 hx
  rw [List.take_succ_eq_append_getElem hk, aMore_snoc, h]; rfl


set_option maxRecDepth 100000 in
set_option maxHeartbeats 400000 in
theorem more_any (l : List UInt8) (A : Option Addr) (n c B : Nat) (s : Nat) (w : World) (hs : s < 4294967296) (hn : l.length = n) (hr : Rd w B A (bytesV l)) (hm : n ≤ 9223372036854775807) :
    Calls Tryz.prog 213 #[.int .u32 s, .slice A n c] w fun e w' => e = .returned (.int .u32 (sumMore s l : Nat)) ∧ w = w' := by
  have Hn := Lib.hid hn
  clear hn
  have hcells : ∀ k, k < n → ∃ (x : UInt8) (b o : Nat), A = some ⟨b, o, none⟩ ∧ l[k]? = some x ∧ w.cell? ⟨b, o + k, none⟩ = some (.int .u8 (x.toNat : Int)) ∧ (x.toNat : Int) < 256 := fun k hk => by
    have hkl : k < l.length := by rw [Hn.out]; exact hk
    rcases hr with h | ⟨b, o, rfl, hb, hc⟩
    · exfalso; have := congrArg List.length h; rw [length_bytesV] at this; simp at this; simp [this] at hkl
    · exact ⟨l[k], b, o, rfl, List.getElem?_eq_getElem hkl, hc k _ (by simp [bytesV, byteV]; exact ⟨_, List.getElem?_eq_getElem _, rfl⟩), by have := l[k].toNat_lt; omega⟩
  have Hc := Lib.hid hcells
  clear hcells
  go_enter Tryz.func213, Tryz.ntmps213
  go_wp2
  have hp1 : s % 65536 % 65521 < 65521 := Nat.mod_lt _ (by decide)
  have hp2 : s / 65536 % 65521 < 65521 := Nat.mod_lt _ (by decide)
  have Hz := Lib.hid (show aMore (aPair s) (l.take 0) = (s % 65536 % 65521, s / 65536 % 65521) from rfl)
  refine wp_scope_labels 1 0 (fun a w' => ∃ k : Nat, k ≤ n ∧ Summed w s A n c l k a w') (fun a w' => Summed w s A n c l n a w') (fun a _ => n - (intOf (a.tmps.getD 7 undef)).toNat) rfl rfl ?_ ?_ ?_
  · go_wp2
    go_step3
    have el : (s : Int) % 65536 % 65521 = ((s % 65536 % 65521 : Nat) : Int) := rfl
    have eh : (s : Int) / 65536 % 65521 = ((s / 65536 % 65521 : Nat) : Int) := rfl
    rw [el, eh]
    clear el eh
    generalize s % 65536 % 65521 = lo at *
    generalize s / 65536 % 65521 = hi at *
    by_cases hlt : 0 < n
    · obtain ⟨x, b, o, rfl, hx, hcell, hx256⟩ := Hc.out 0 hlt
      have hx0 : 0 ≤ (x.toNat : Int) := by omega
      have Hx := Lib.hid hx
      clear hx
      have hne : ((0 : Int) == (n : Int)) = false := beq_eq_false_iff_ne.2 (by omega)
      rw [Nat.add_zero] at hcell
      go_wp2
      go_step3
      exact .inl ⟨rfl, 1, hlt, rfl, (lo + x.toNat) % 65521, (hi + (lo + x.toNat) % 65521) % 65521, _, _, _, _, _, _, _, _, _, _, _, _, _, _, _, _, _, _, _, _, _, _, _, _, rfl, Nat.mod_lt _ (by decide), Nat.mod_lt _ (by decide), aMore_next Hz.out Hx.out⟩
    · obtain rfl : n = 0 := by omega
      go_wp2
      go_step3
      exact .inr ⟨rfl, rfl, _, _, _, _, _, _, _, _, _, _, _, _, _, _, _, _, _, _, _, _, _, _, _, _, _, _, rfl, hp1, hp2, Hz.out⟩
  · rintro a w' ⟨k, hk, rfl, lo, hi, u8, u9, u10, u11, u12, u13, u14, u15, u16, u17, u18, u19, u20, u21, u22, u23, u24, u25, u26, u27, u28, u29, u30, u31, rfl, hlo, hhi, hsum⟩
    have Hs := Lib.hid hsum
    clear hsum
    by_cases hlt : k < n
    · obtain ⟨x, b, o, rfl, hx, hcell, hx256⟩ := Hc.out k hlt
      have hx0 : 0 ≤ (x.toNat : Int) := by omega
      have Hx := Lib.hid hx
      clear hx
      have hne : ((k : Int) == (n : Int)) = false := beq_eq_false_iff_ne.2 (by omega)
      go_wp2
      go_step3
      exact .inl ⟨rfl, ⟨k + 1, hlt, rfl, (lo + x.toNat) % 65521, (hi + (lo + x.toNat) % 65521) % 65521, _, _, _, _, _, _, _, _, _, _, _, _, _, _, _, _, _, _, _, _, _, _, _, _, rfl, Nat.mod_lt _ (by decide), Nat.mod_lt _ (by decide), aMore_next Hs.out Hx.out⟩, by simp [intOf]; omega⟩
    · obtain rfl : k = n := by omega
      go_wp2
      go_step3
      exact .inr ⟨rfl, rfl, _, _, _, _, _, _, _, _, _, _, _, _, _, _, _, _, _, _, _, _, _, _, _, _, _, _, rfl, hlo, hhi, Hs.out⟩
  · rintro a w' ⟨rfl, lo, hi, u8, u9, u10, u11, u12, u13, u14, u15, u16, u17, u18, u19, u20, u21, u22, u23, u24, u25, u26, u27, u28, u29, u30, u31, rfl, hlo, hhi, hsum⟩
    have Hs := Lib.hid hsum
    clear hsum
    go_wp2
    rw [jumps_ret]
    go_ret
    refine ⟨?_, rfl⟩
    have h := Hs.out
    rw [List.take_of_length_le (by rw [Hn.out]; omega)] at h
    unfold sumMore
    rw [h]
    show Ending.returned (.int .u32 (bits .or .u32 ((hi : Int) * 65536) lo)) = Ending.returned (.int .u32 ((hi * 65536 + lo : Nat) : Int))
    have := u32_or_nat (hi * 65536) lo (by omega) (by omega)
    rw [nat_join 16 _ _ (by omega) (by omega)] at this
    rw [← this]; rfl

theorem of_any (l : List UInt8) (A : Option Addr) (n c B : Nat) (w : World) (hn : l.length = n) (hr : Rd w B A (bytesV l)) (hm : n ≤ 9223372036854775807) :
    Calls Tryz.prog 195 #[.slice A n c] w fun e w' => e = .returned (.int .u32 (sumOf l : Nat)) ∧ w = w' := by
  have Hn := Lib.hid hn
  clear hn
  go_enter Tryz.func195, Tryz.ntmps195
  go_wp2_with (go_at_call 213; refine (more_any l A n c B 1 _ (by omega) Hn.out hr hm).mono ?_; rintro e w' ⟨rfl, rfl⟩)
  go_ret
  exact ⟨rfl, rfl⟩
end Go.Proofs.YtcjkbmmjpkghlaaGreat

/-
  Copies of slices of bytes that the program's own library makes (Clone, Grow of nil, Concat): what each call returns.
-/
namespace Go.Proofs.YtcjkbmmjpkghlaaGreat
open Go.RowKit

theorem clone_none (c : Nat) (w : World) :
    Calls Tryz.prog 187 #[.slice none 0 c] w fun e w' => e = .returned (.slice none 0 0) ∧ w = w' := by
  have hne := fun (u : World) => run_eql_nil_slice (P := Tryz.prog) u 37 5 none 0 0 0 c Tryz.underlying37
  go_enter Tryz.func187, Tryz.ntmps187
  go_wp2
  go_ret
  exact ⟨rfl, rfl⟩
theorem clone_some (l : List UInt8) (ad : Addr) (n c : Nat) (w : World) (hn : l.length = n) (hr : Rd w w.heap.size (some ad) (bytesV l)) (hm : n ≤ 140737488355328) :
    Calls Tryz.prog 187 #[.slice (some ad) n c] w fun e w' => ∃ v, e = .returned v ∧ w'.ownsRow w.heap.size 5 1 v n (bytesV l) ∧ Below w.heap.size w w' := by
  have Hn := Lib.hid hn
  clear hn
  have hne := fun (u : World) => Lib.run_eql_slice_nil (P := Tryz.prog) u 37 5 ad n c 0 0 Tryz.underlying37
  have hlit : (w.alloc (.cells #[] 5)).ownsRow w.heap.size 5 1 (.slice (some ⟨w.heap.size, 0, none⟩) 0 0) 0 (bytesV []) := World.ownsRow_lit w #[] 0 (Nat.le_refl _) (Nat.zero_le _) rfl
  have hr1 := hr.below ((Below.refl _ w).alloc (Nat.le_refl _) (.cells #[] 5))
  go_enter Tryz.func187, Tryz.ntmps187
  go_wp2_with (at_builtin; refine wpList_app5 _ rfl (.tmp 5) (.tmp 6) rfl w.heap.size _ 0 [] rfl hlit w.heap.size (some ad) n c l rfl Hn.out hr1 (by omega) (by simp) ?_; intro v w1 hown hgrow)
  go_ret
  rw [Nat.zero_add, List.nil_append] at hown
  exact ⟨_, rfl, hown, ((Below.refl _ w).alloc (Nat.le_refl _) _).grown hgrow (by simp) (fun k hk => (hlit.lt k hk).1)⟩

theorem run_grow (n : Nat) (w : World) (ty : TypeId) (h0 : 0 < n) (hm : n ≤ 140737488355328) :
    ∃ c' w', (Builtin.append_ #[37, 3] ty #[.slice none 0 0, .int .i64 n]).run Tryz.prog w = .ok (.slice (some ⟨w.heap.size, 0, none⟩) n c') w' ∧ n ≤ c' ∧ c' ≤ maxLen ∧
      w'.ownsRow w.heap.size 5 1 (.slice (some ⟨w.heap.size, 0, none⟩) 0 c') 0 [] ∧ Below w.heap.size w w' := by
  obtain ⟨i0, hi, hz0, hz1, hz2⟩ := info_parts info5
  have hc := grownCap_ge w n 0 5
  have hcm := grownCap_le_maxLen w n 0 5 (by simp only [maxLen]; omega)
  refine ⟨_, _, Lib.run_append_nil_zeros w 37 3 ty 5 i0 _ .i64 .i64 Tryz.underlying37 Tryz.underlying3 hi hz0 n h0 (by omega) (by omega) (by rw [hz2]; omega), hc, hcm, ?_, ?_⟩
  · exact World.ownsRow_made w.drew _ _ (Nat.le_refl _) hcm (by simp [Builtin.zeroCells, Value.cells]; omega)
  · exact (Below.refl _ _).drew.alloc (Nat.le_refl _) _

set_option maxRecDepth 100000 in
theorem grow_none (n : Nat) (w : World) (hm : n ≤ 140737488355328) :
    Calls Tryz.prog 194 #[.slice none 0 0, .int .i64 n] w fun e w' => ∃ v, e = .returned v ∧ w'.ownsRow w.heap.size 5 1 v 0 [] ∧ Below w.heap.size w w' := by
  by_cases h0 : 0 < n
  · obtain ⟨c', w1, hrun, hc1, hc2, hown, hbel⟩ := run_grow n w 37 h0 hm
    unfold maxLen at hc2
    go_enter Tryz.func194, Tryz.ntmps194
    go_wp2_with (at_builtin; refine Lib.wpList_append_run _ rfl _ _ _ _ rfl _ _ rfl rfl _ _ hrun ?_)
    go_ret
    exact ⟨_, rfl, hown, hbel⟩
  · obtain rfl : n = 0 := by omega
    go_enter Tryz.func194, Tryz.ntmps194
    go_wp2
    go_ret
    exact ⟨_, rfl, World.ownsRow_nil _ _ _ _, Below.refl _ _⟩

/-- A slice of bytes as it lies: its value, and what it holds. -/
def Part (w : World) (p : Value × List UInt8) : Prop := ∃ A n c, p.1 = .slice A n c ∧ p.2.length = n ∧ n ≤ c ∧ Rd w w.heap.size A (bytesV p.2)
def total (ps : List (Value × List UInt8)) : List UInt8 := ps.flatMap (·.2)
theorem total_snoc (ps : List (Value × List UInt8)) (k : Nat) (p : Value × List UInt8) (h : ps[k]? = some p) : total (ps.take (k + 1)) = total (ps.take k) ++ p.2 := by
  obtain ⟨hk, rfl⟩ := List.getElem?_eq_some_iff.1 h
  rw [List.take_succ_eq_append_getElem hk, total, List.flatMap_append]
  simp [total]
theorem total_le (ps : List (Value × List UInt8)) (k : Nat) : (total (ps.take k)).length ≤ (total ps).length := by
  have : total ps = total (ps.take k) ++ total (ps.drop k) := by
    unfold total; rw [← List.flatMap_append, List.take_append_drop]
  rw [this, List.length_append]; omega

set_option maxHeartbeats 400000 in
theorem concat_any (ps : List (Value × List UInt8)) (A : Option Addr) (m c : Nat) (w : World) (hlen : ps.length = m) (hr : Rd w w.heap.size A (ps.map (·.1))) (hp : ∀ p ∈ ps, Part w p)
    (ht : (total ps).length ≤ 140737488355328) (hm : m ≤ 9223372036854775807) :
    Calls Tryz.prog 156 #[.slice A m c] w fun e w' => ∃ v, e = .returned v ∧ w'.ownsRow w.heap.size 5 1 v (total ps).length (bytesV (total ps)) ∧ Below w.heap.size w w' := by
  have hcells : ∀ k, k < m → ∃ (p : Value × List UInt8) (b o : Nat) (A' : Option Addr) (n' c' : Nat), A = some ⟨b, o, none⟩ ∧ b < w.heap.size ∧ ps[k]? = some p ∧ w.cell? ⟨b, o + k, none⟩ = some (.slice A' n' c') ∧ p.2.length = n' ∧ n' ≤ c' ∧ Rd w w.heap.size A' (bytesV p.2) := fun k hk => by
    have hkl : k < ps.length := by omega
    obtain ⟨A', n', c', h1, h2, h3, h4⟩ := hp ps[k] (List.getElem_mem hkl)
    rcases hr with h | ⟨b, o, rfl, hb, hc⟩
    · exfalso; have := congrArg List.length h; simp at this; simp [this] at hkl
    · exact ⟨ps[k], b, o, A', n', c', rfl, hb, List.getElem?_eq_getElem hkl, by rw [← h1]; exact hc k _ (by simp [hkl]), h2, h3, h4⟩
  have Hc := Lib.hid hcells
  have Hl := Lib.hid hlen
  have Ht := Lib.hid (fun k => total_le ps k)
  clear hcells hlen hp hr
  go_enter Tryz.func156, Tryz.ntmps156
  go_wp2
  go_loop [3, 11] (fun x i => ∃ k : Nat, k ≤ m ∧ i = .int .i64 k ∧ x = .int .i64 ((total (ps.take k)).length : Nat)) (fun _ i => m - (intOf i).toNat)
  case atStart => exact ⟨0, Nat.zero_le _, rfl, rfl⟩
  case round =>
    obtain ⟨k, hk, rfl, rfl⟩ := hrel
    have hle := Ht.out k
    by_cases hlt : k < m
    · obtain ⟨p, b, o, A', n', c', rfl, hb, hx, hcell, hn', hcap, hrp⟩ := Hc.out k hlt
      have hts := total_snoc ps k p hx
      have hle1 := Ht.out (k + 1)
      have hsum : (total (ps.take (k + 1))).length = (total (ps.take k)).length + n' := by rw [hts, List.length_append, hn']
      have Hs := Lib.hid hsum
      have hn1 : (total (ps.take k)).length + n' ≤ (total ps).length := by omega
      clear hsum hts hx hn' hle1
      go_wp2
      go_round
      case rel => exact ⟨k + 1, hlt, by go_num, by rw [Hs.out]; go_num⟩
      case measure => simp [intOf]; omega
    · obtain rfl : k = m := by omega
      go_wp2_with (go_at_call 194; refine (grow_none (total (ps.take k)).length _ (by omega)).mono ?_; rintro e w1 ⟨v, rfl, hown, hb1⟩)
      have hown0 : w1.ownsRow w.heap.size 5 1 v (total (ps.take 0)).length (bytesV (total (ps.take 0))) := hown
      clear hown
      obtain ⟨wo, rfl⟩ : ∃ wo : World, wo = w := ⟨_, rfl⟩
      go_loopw [6, 27] (fun x i wr => ∃ j : Nat, j ≤ k ∧ i = .int .i64 j ∧ wr.ownsRow wo.heap.size 5 1 x (total (ps.take j)).length (bytesV (total (ps.take j))) ∧ Below wo.heap.size wo wr) (fun _ i _ => k - (intOf i).toNat)
      case atStart => exact ⟨0, Nat.zero_le _, rfl, hown0, hb1⟩
      case round =>
        obtain ⟨j, hj, rfl, hown, hbel⟩ := hrel
        by_cases hlt2 : j < k
        · obtain ⟨p, b, o, A', n', c', rfl, hb, hx, hcell, hn', hcap, hrp⟩ := Hc.out j hlt2
          have hts := total_snoc ps j p hx
          have hle1 := Ht.out (j + 1)
          have hsum : (total (ps.take (j + 1))).length = (total (ps.take j)).length + n' := by rw [hts, List.length_append, hn']
          have Hts := Lib.hid hts
          have Hs := Lib.hid hsum
          have Hn := Lib.hid hn'
          have hcell1 := (hbel.cell (p := ⟨b, o + j, none⟩) hb).trans hcell
          have hrp1 := hrp.below hbel
          have hsz := hbel.size
          have hn1 : (total (ps.take j)).length + n' ≤ 140737488355328 := by omega
          clear hsum hts hx hn' hle1 hcell hrp
          go_wp2_with (at_builtin; refine wpList_app5 _ rfl (.tmp 31) (.tmp 32) rfl wo.heap.size _ (total (ps.take j)).length (total (ps.take j)) rfl hown wo.heap.size A' n' c' p.2 rfl Hn.out hrp1 (by omega) hsz ?_; intro v2 w2 hown2 hgrow2)
          go_roundw
          case rel => exact ⟨j + 1, hlt2, by go_num, by rw [Hs.out, Hts.out]; exact hown2, hbel.grown hgrow2 (by omega) (fun g hg => (hown.lt g hg).1)⟩
          case measure => simp [intOf]; omega
        · obtain rfl : j = k := by omega
          go_wp2
          go_ret
          rw [List.take_of_length_le (by rw [Hl.out]; omega)] at hown
          exact ⟨_, rfl, hown, hbel⟩
end Go.Proofs.YtcjkbmmjpkghlaaGreat

/-
  Package field's and the document's own Lay, Take and Fill: what each call returns, and what it leaves.
-/
namespace Go.Proofs.YtcjkbmmjpkghlaaGreat
open Go.RowKit

/-- What stands in the new block while numbers are laid. -/
def Laying (w : World) (g size : Nat) (L : List Nat) (j : Nat) (wr : World) : Prop := Bk wr g 5 (bytesV (filled size L j)) ∧ w.grownBy wr (some g)

theorem only_trans {a b c : World} {g : Nat} (h : a.grownBy b (some g)) (k : b.grownBy c (some g)) : a.grownBy c (some g) :=
  ⟨k.os.trans h.os, k.tape.trans h.tape, k.output.trans h.output, Nat.le_trans h.size k.size, fun i hi hne => (k.block i (Nat.lt_of_lt_of_le hi h.size) hne).trans (h.block i hi hne)⟩

theorem laying_step {w wr w' : World} {g size : Nat} {L : List Nat} {j : Nat} (hj : j < L.length) (h : Laying w g size L j wr) (h' : Storing wr g (filled size L j) (j * size) L[j] size w') :
    Laying w g size L (j + 1) w' := by
  refine ⟨?_, only_trans h.2 h'.2⟩
  have := h'.1
  rw [filled_step size L j hj] at this
  exact this

theorem rd_grown {w w' : World} {B : Nat} {A : Option Addr} {xs : List Value} {g : Nat} (h : Rd w B A xs) (hb : w.grownBy w' (some g)) (hB : B ≤ w.heap.size) (hg : B ≤ g) : Rd w' B A xs :=
  h.keep fun p hp => World.cell?_of_block (hb.block p.block (by omega) (by intro e; injection e; omega))

set_option maxHeartbeats 400000 in
theorem lay_ok (L : List Nat) (A : Option Addr) (n c size : Nat) (w : World) (hn : L.length = n) (hr : Rd w w.heap.size A (numsV L)) (hs8 : size ≤ 8) (hs1 : 1 ≤ size) (hL : ∀ x ∈ L, x < 18446744073709551616)
    (hf : ∀ x ∈ L, fitB x size = true) (hm : n * size ≤ 4096) :
    Calls Tryz.prog 154 #[.int .i64 size, .slice A n c] w fun e w' => ∃ v, e = .returned (.tuple #[v, .int .i64 0]) ∧ Made w (layl size L) v w' := by
  have hq : ¬ ((4096 : Int) / (size : Int) < (n : Int)) := by
    have : (n : Int) ≤ 4096 / (size : Int) := Int.le_ediv_of_mul_le (by omega) (by omega)
    omega
  have hmi : (n : Int) * (size : Int) ≤ 4096 := by omega
  have hn4 : n ≤ 4096 := Nat.le_trans (Nat.le_mul_of_pos_right n (by omega)) hm
  have hmk : ∀ u : World, (Instr.makeSlice 37 (.int .i64 ((n : Int) * (size : Int))) (.int .i64 ((n : Int) * (size : Int)))).run Tryz.prog u =
    .ok (.slice (some ⟨u.heap.size, 0, none⟩) (n * size) (n * size)) (u.alloc (.cells (bytesV (List.replicate (n * size) 0)).toArray 5)) := fun u => by
      have := make_bytes (n * size) (by omega) u
      rw [Int.natCast_mul] at this
      exact this
  have hbk := Bk.new w 5 (bytesV (List.replicate (n * size) 0))
  have hbel : Below w.heap.size w (w.alloc (.cells (bytesV (List.replicate (n * size) 0)).toArray 5)) := (Below.refl _ _).alloc (Nat.le_refl _) _
  have hsrc := hr.below hbel
  obtain ⟨z, hz⟩ : ∃ z, z = (bytesV (List.replicate (n * size) 0)).toArray := ⟨_, rfl⟩
  unfold Bk at hbk
  rw [← hz] at hmk hbk hbel hsrc
  have hlay : Laying (w.alloc (.cells z 5)) w.heap.size size L 0 (w.alloc (.cells z 5)) := ⟨by unfold Bk; rw [filled_zero, hn, hbk, hz], World.grownBy.refl _ _⟩
  have Hn := Lib.hid hn
  clear hn hbk hz hr
  go_enter Tryz.func154, Tryz.ntmps154
  go_wp2_with (go_at_call 190; refine (isSize_true _ _ (by omega) (by omega)).mono ?_; rintro e w' ⟨rfl, rfl⟩)
  go_loopw [24] (fun k wr => ∃ j : Nat, j ≤ n ∧ k = .int .i64 j ∧ Laying (w.alloc (.cells z 5)) w.heap.size size L j wr) (fun k _ => n - (intOf k).toNat)
  case atStart => exact ⟨0, Nat.zero_le _, rfl, hlay⟩
  case round =>
    obtain ⟨j, hj, rfl, hst⟩ := hrel
    by_cases hlt : j < n
    · have hjl : j < L.length := by have := Hn.out; omega
      have hgt : ¬ ((n : Int) ≤ j) := by omega
      rcases rd_grown hsrc hst.2 (by simp) (Nat.le_refl _) with h | ⟨b, o, rfl, hb, hc⟩
      · exfalso; have := congrArg List.length h; rw [length_numsV] at this; simp at this; simp [this] at hjl
      have hcell : wr.cell? ⟨b, o + j, none⟩ = some (.int .u64 (L[j] : Int)) := hc j _ (by simp [numsV, numV]; exact ⟨_, List.getElem?_eq_getElem _, rfl⟩)
      have Hf := Lib.hid (hf L[j] (List.getElem_mem hjl))
      have hx := hL L[j] (List.getElem_mem hjl)
      have hjm : (j : Int) * (size : Int) + size ≤ (n : Int) * (size : Int) := by
        have : (j + 1) * size ≤ n * size := Nat.mul_le_mul_right _ (by omega)
        rw [Nat.add_mul] at this
        omega
      have hj0 : 0 ≤ (j : Int) * (size : Int) := by have := Nat.zero_le (j * size); omega
      have hne : ¬ (n * size = j * size) := by omega
      have HS := Lib.hid (fun w' => laying_step (w' := w') hjl hst)
      have hb1 := hst.1
      have hlf : (filled size L j).length = n * size := by rw [length_filled _ _ _ (by omega), Hn.out]
      have Hlf := Lib.hid hlf
      obtain ⟨x, hxe⟩ : ∃ x, x = L[j] := ⟨_, rfl⟩
      rw [← hxe] at hcell Hf hx HS
      clear hc hst hlf hxe
      go_wp2_with (first
        | (go_at_call 191; refine (fits_any x size _ hx hs1 hs8).mono ?_; rintro e w' ⟨rfl, rfl⟩; rw [Hf.out])
        | (go_at_call 192; refine (store_any (filled size L j) w.heap.size (j * size) (n * size - j * size) _ size x _ hb1 (by rw [Hlf.out]; omega) (by omega) hs8).mono ?_; rintro e w2 ⟨rfl, hst⟩; have hst2 := HS.out _ hst; clear hst hb1))
      go_roundw
      case rel => exact ⟨j + 1, by omega, by go_num, hst2⟩
      case measure => simp [intOf]; omega
    · have hgt : (n : Int) ≤ j := by omega
      go_wp2
      go_ret2
      obtain rfl : j = L.length := by have := Hn.out; omega
      have hb := hst.1
      rw [filled_all] at hb
      refine ⟨_, rfl, ?_, hbel.trans (below_of_only hst.2 hbel.size (Nat.le_refl _))⟩
      rw [length_layl, Hn.out]
      exact hb.own (n * size) (by rw [length_bytesV, length_layl, Hn.out]) (Nat.le_refl _) (by simp only [maxLen]; omega)

theorem lay_arg (A : Option Addr) (n c : Nat) (size : Int) (w : World) (h : ¬ (1 ≤ size ∧ size ≤ 8)) :
    Calls Tryz.prog 154 #[.int .i64 size, .slice A n c] w fun e w' => e = .returned (.tuple #[.slice none 0 0, .int .i64 1]) ∧ w = w' := by
  have H := Lib.hid h
  clear h
  go_enter Tryz.func154, Tryz.ntmps154
  go_wp2_with (go_at_call 190; refine (isSize_false _ _ H.out).mono ?_; rintro e w' ⟨rfl, rfl⟩)
  go_ret2
  exact ⟨rfl, rfl⟩
theorem lay_much (A : Option Addr) (n c size : Nat) (w : World) (hs8 : size ≤ 8) (hs1 : 1 ≤ size) (hm : ¬ (n * size ≤ 4096)) :
    Calls Tryz.prog 154 #[.int .i64 size, .slice A n c] w fun e w' => e = .returned (.tuple #[.slice none 0 0, .int .i64 4]) ∧ w = w' := by
  have hq : (4096 : Int) / (size : Int) < (n : Int) := Int.ediv_lt_of_lt_mul (by omega) (by omega)
  clear hm
  go_enter Tryz.func154, Tryz.ntmps154
  go_wp2_with (go_at_call 190; refine (isSize_true _ _ (by omega) (by omega)).mono ?_; rintro e w' ⟨rfl, rfl⟩)
  go_ret2
  exact ⟨rfl, rfl⟩

set_option maxHeartbeats 400000 in
/-- A number that does not fit: whichever is the first. -/
theorem lay_long (L : List Nat) (A : Option Addr) (n c size : Nat) (w : World) (hn : L.length = n) (hr : Rd w w.heap.size A (numsV L)) (hs8 : size ≤ 8) (hs1 : 1 ≤ size) (hL : ∀ x ∈ L, x < 18446744073709551616)
    (hf : L.all (fitB · size) = false) (hm : n * size ≤ 4096) :
    Calls Tryz.prog 154 #[.int .i64 size, .slice A n c] w fun e w' => e = .returned (.tuple #[.slice none 0 0, .int .i64 4]) ∧ Below w.heap.size w w' := by
  have hq : ¬ ((4096 : Int) / (size : Int) < (n : Int)) := by
    have : (n : Int) ≤ 4096 / (size : Int) := Int.le_ediv_of_mul_le (by omega) (by omega)
    omega
  have hmi : (n : Int) * (size : Int) ≤ 4096 := by omega
  have hn4 : n ≤ 4096 := Nat.le_trans (Nat.le_mul_of_pos_right n (by omega)) hm
  have hmk : ∀ u : World, (Instr.makeSlice 37 (.int .i64 ((n : Int) * (size : Int))) (.int .i64 ((n : Int) * (size : Int)))).run Tryz.prog u =
    .ok (.slice (some ⟨u.heap.size, 0, none⟩) (n * size) (n * size)) (u.alloc (.cells (bytesV (List.replicate (n * size) 0)).toArray 5)) := fun u => by
      have := make_bytes (n * size) (by omega) u
      rw [Int.natCast_mul] at this
      exact this
  have hbk := Bk.new w 5 (bytesV (List.replicate (n * size) 0))
  have hbel : Below w.heap.size w (w.alloc (.cells (bytesV (List.replicate (n * size) 0)).toArray 5)) := (Below.refl _ _).alloc (Nat.le_refl _) _
  have hsrc := hr.below hbel
  obtain ⟨z, hz⟩ : ∃ z, z = (bytesV (List.replicate (n * size) 0)).toArray := ⟨_, rfl⟩
  unfold Bk at hbk
  rw [← hz] at hmk hbk hbel hsrc
  have hlay : Laying (w.alloc (.cells z 5)) w.heap.size size L 0 (w.alloc (.cells z 5)) := ⟨by unfold Bk; rw [filled_zero, hn, hbk, hz], World.grownBy.refl _ _⟩
  have Hn := Lib.hid hn
  have Hnf := Lib.hid hf
  clear hn hbk hz hr hf
  go_enter Tryz.func154, Tryz.ntmps154
  go_wp2_with (go_at_call 190; refine (isSize_true _ _ (by omega) (by omega)).mono ?_; rintro e w' ⟨rfl, rfl⟩)
  go_loopw [24] (fun k wr => ∃ j : Nat, j ≤ n ∧ k = .int .i64 j ∧ Hid ((L.take j).all (fitB · size) = true) ∧ Laying (w.alloc (.cells z 5)) w.heap.size size L j wr) (fun k _ => n - (intOf k).toNat)
  case atStart => exact ⟨0, Nat.zero_le _, rfl, (rfl : ([] : List Nat).all (fitB · size) = true), hlay⟩
  case round =>
    obtain ⟨j, hj, rfl, Hsofar, hst⟩ := hrel
    by_cases hlt : j < n
    · have hjl : j < L.length := by have := Hn.out; omega
      have hgt : ¬ ((n : Int) ≤ j) := by omega
      rcases rd_grown hsrc hst.2 (by simp) (Nat.le_refl _) with h | ⟨b, o, rfl, hb, hc⟩
      · exfalso; have := congrArg List.length h; rw [length_numsV] at this; simp at this; simp [this] at hjl
      have hcell : wr.cell? ⟨b, o + j, none⟩ = some (.int .u64 (L[j] : Int)) := hc j _ (by simp [numsV, numV]; exact ⟨_, List.getElem?_eq_getElem _, rfl⟩)
      have hx := hL L[j] (List.getElem_mem hjl)
      have hjm : (j : Int) * (size : Int) + size ≤ (n : Int) * (size : Int) := by
        have : (j + 1) * size ≤ n * size := Nat.mul_le_mul_right _ (by omega)
        rw [Nat.add_mul] at this
        omega
      have hj0 : 0 ≤ (j : Int) * (size : Int) := by have := Nat.zero_le (j * size); omega
      have hne : ¬ (n * size = j * size) := by omega
      have HS := Lib.hid (fun w' => laying_step (w' := w') hjl hst)
      have hb1 := hst.1
      have hbe := hbel.trans (below_of_only hst.2 hbel.size (Nat.le_refl _))
      have hlf : (filled size L j).length = n * size := by rw [length_filled _ _ _ (by omega), Hn.out]
      have Hlf := Lib.hid hlf
      have Hnext : Hid (fitB L[j] size = true → (L.take (j + 1)).all (fitB · size) = true) := fun h => by
        rw [List.take_succ_eq_append_getElem hjl, List.all_append, Hsofar.out]
        simpa using h
      obtain ⟨x, hxe⟩ : ∃ x, x = L[j] := ⟨_, rfl⟩
      rw [← hxe] at hcell hx HS Hnext
      clear hc hst hlf hxe
      by_cases hfx : fitB x size = true
      · have Hf := Lib.hid hfx
        clear hfx
        go_wp2_with (first
          | (go_at_call 191; refine (fits_any x size _ hx hs1 hs8).mono ?_; rintro e w' ⟨rfl, rfl⟩; rw [Hf.out])
          | (go_at_call 192; refine (store_any (filled size L j) w.heap.size (j * size) (n * size - j * size) _ size x _ hb1 (by rw [Hlf.out]; omega) (by omega) hs8).mono ?_; rintro e w2 ⟨rfl, hst⟩; have hst2 := HS.out _ hst; clear hst hb1))
        go_roundw
        case rel => exact ⟨j + 1, by omega, by go_num, Hnext.out Hf.out, hst2⟩
        case measure => simp [intOf]; omega
      · have Hf := Lib.hid (show fitB x size = false by simpa using hfx)
        clear hfx
        go_wp2_with (first
          | (go_at_call 191; refine (fits_any x size _ hx hs1 hs8).mono ?_; rintro e w' ⟨rfl, rfl⟩; rw [Hf.out]))
        go_ret2
        exact ⟨rfl, hbe⟩
    · exfalso
      obtain rfl : j = L.length := by have := Hn.out; omega
      have h1 := Hsofar.out
      have h2 := Hnf.out
      rw [List.take_length] at h1
      rw [h1] at h2
      cases h2

/-- What Lay comes to at a size that is right. -/
def LayPost (size : Nat) (L : List Nat) (w : World) (e : Ending) (w' : World) : Prop :=
  (layB size L = true → ∃ v, e = .returned (.tuple #[v, .int .i64 0]) ∧ Made w (layl size L) v w') ∧
  (layB size L = false → e = .returned (.tuple #[.slice none 0 0, .int .i64 4]) ∧ Below w.heap.size w w')

theorem lay_any (L : List Nat) (A : Option Addr) (n c size : Nat) (w : World) (hn : L.length = n) (hr : Rd w w.heap.size A (numsV L)) (hs8 : size ≤ 8) (hs1 : 1 ≤ size) (hL : ∀ x ∈ L, x < 18446744073709551616) :
    Calls Tryz.prog 154 #[.int .i64 size, .slice A n c] w fun e w' => LayPost size L w e w' := by
  by_cases hm : n * size ≤ 4096
  · cases hf : L.all (fitB · size) with
    | true =>
      refine (lay_ok L A n c size w hn hr hs8 hs1 hL (by simpa using hf) hm).mono fun e w' h => ⟨fun _ => h, fun h' => ?_⟩
      rw [layB, hf, hn] at h'
      simp [hm] at h'
    | false =>
      refine (lay_long L A n c size w hn hr hs8 hs1 hL hf hm).mono fun e w' h => ⟨fun h' => ?_, fun _ => h⟩
      rw [layB, hf] at h'
      simp at h'
  · refine (lay_much A n c size w hs8 hs1 hm).mono fun e w' h => ⟨fun h' => ?_, fun _ => ⟨h.1, h.2 ▸ Below.refl _ _⟩⟩
    rw [layB, hn] at h'
    simp [hm] at h'

end Go.Proofs.YtcjkbmmjpkghlaaGreat

/-
  A region that draws its order, walked while a condition on the world is held: the condition may be made stronger on the way (what a call has handed back is known from then on).
-/
namespace Go.Proofs.YtcjkbmmjpkghlaaGreat
open Go

section
variable {P : Program} {md : Region.Mode} {ops : Array Oper} {Q : Exit → Act → World → Prop} {S T : World → Prop}
theorem held_strong (h : ∀ w, T w → S w) : ∀ (fuel : Nat) (listed : Array Bool) (a : Act) (w : World), wpAnyH P md ops Q T fuel listed a w → wpAnyH P md ops Q S fuel listed a w
  | 0, _, _, _, k => k
  | fuel + 1, _, _, _, k => ⟨k.1, fun i hi => wpOp_mono (fun _ w' h' => ⟨h w' h'.1, held_strong h fuel _ _ _ h'.2⟩) (k.2 i hi)⟩
end
end Go.Proofs.YtcjkbmmjpkghlaaGreat

/-
  Bytes that are sealed with their check sum, and opened, by the program and by the document's own answer: what each call returns.
-/
namespace Go.Proofs.YtcjkbmmjpkghlaaGreat
open Go.RowKit

theorem str_of {w : World} {B : Nat} {A : Option Addr} {n c : Nat} {l : List UInt8} (hn : l.length = n) (hr : Rd w B A (bytesV l)) : (convert 37 9 (.slice A n c)).run Tryz.prog w = .ok (.string ⟨l.toArray⟩) w :=
  run_str w 37 9 5 Tryz.underlying37 Tryz.underlying5 Tryz.underlying9 B A n c l hn hr

theorem below_drewN {B : Nat} {a w : World} (h : Below B a w) (n : Nat) : Below B a (w.drewN n) := ⟨h.os, h.tape, h.output, h.size, h.block⟩
/-- Bytes with their check sum behind them. -/
def sealed (l : List UInt8) : List UInt8 := l ++ digs (sumOf l) 4
theorem length_sealed (l : List UInt8) : (sealed l).length = l.length + 4 := by simp [sealed, length_digs]
theorem sumOf_lt (l : List UInt8) : sumOf l < 4294967296 := sumMore_lt 1 l

set_option maxHeartbeats 400000 in
theorem seal_any (l : List UInt8) (A : Option Addr) (n c : Nat) (w : World) (hn : l.length = n) (hr : Rd w w.heap.size A (bytesV l)) (hc : n ≤ c) (hm : n ≤ 140737488355320) :
    Calls Tryz.prog 157 #[.slice A n c] w fun e w' => ∃ v, e = .returned v ∧ Made w (sealed l) v w' := by
  have hlt := sumOf_lt l
  have hf : ∀ x ∈ [sumOf l], fitB x 4 = true := by
    intro x hx
    simp only [List.mem_singleton] at hx
    subst hx
    simp [fitB]; omega
  have Hn := Lib.hid hn
  have Hf := Lib.hid hf
  clear hn hf
  obtain ⟨s, hs⟩ : ∃ s, s = sumOf l := ⟨_, rfl⟩
  have Hs := Lib.hid hs
  rw [← hs] at hlt Hf
  clear hs
  go_enter Tryz.func157, Tryz.ntmps157
  go_wp2_with (go_at_call 195; refine (of_any l A n c w.heap.size _ Hn.out hr (by omega)).mono ?_; rintro e w' ⟨rfl, rfl⟩; rw [← Hs.out])
  refine (lay_ok [s] _ 1 1 4 _ rfl ?_ (by omega) (by omega) ?_ Hf.out (by omega)).mono ?_
  · exact .inr ⟨w.heap.size, 0, rfl, by simp, fun j u hu => by
      rw [World.cell?_alloc_at _ _ _ _ rfl]
      cases j with
      | zero => simpa [numsV, numV] using hu
      | succ j => simp [numsV] at hu⟩
  · intro x hx
    simp only [List.mem_singleton] at hx
    omega
  rintro e w2 ⟨v, rfl, hown, hb2⟩
  have hl : layl 4 [s] = digs s 4 := by simp [layl]
  rw [hl, length_digs] at hown
  have hown2 := own_rd hown
  obtain ⟨_, A2, c2, rfl, hc2, _, hr2⟩ := hown2
  have hb1 : Below w.heap.size w w2 := (((Below.refl _ w).alloc (Nat.le_refl _) _).trans (hb2.mono (by simp)))
  have hr1 := hr.below hb1
  clear hl hown
  have hsz := hb1.size
  have Hpart : Hid (∀ u : World, Below w2.heap.size w2 u → ∀ p ∈ [((.slice A n c : Value), l), (.slice A2 4 c2, digs s 4)], Part u p) := by
    intro u hu p hp
    have hs := hu.size
    simp only [List.mem_cons, List.not_mem_nil, or_false] at hp
    rcases hp with rfl | rfl
    · exact ⟨A, n, c, rfl, Hn.out, hc, (hr1.more hsz |>.below hu).more hs⟩
    · exact ⟨A2, 4, c2, rfl, length_digs _ _, hc2, (hr2.below hu).more hs⟩
  clear hr1 hr2 hr
  have hal : Below w2.heap.size w2 (w2.alloc (.cells #[.slice A n c, .slice A2 4 c2] 37)) := (Below.refl _ w2).alloc (Nat.le_refl _) _
  have htot : total [((.slice A n c : Value), l), (.slice A2 4 c2, digs s 4)] = sealed l := by simp [total, sealed, Hs.out]
  have Htot := Lib.hid htot
  clear htot
  go_wp2_with fail
  refine (concat_any [((.slice A n c : Value), l), (.slice A2 4 c2, digs s 4)] _ 2 2 _ rfl ?_ (Hpart.out _ hal) ?_ (by omega)).mono ?_
  · exact .inr ⟨w2.heap.size, 0, rfl, by simp, fun j u hu => by
      match j, hu with
      | 0, hu => rw [World.cell?_alloc_at _ _ _ _ rfl]; simpa using hu
      | 1, hu => rw [World.cell?_alloc_at _ _ _ _ rfl]; simpa using hu
      | j + 2, hu => simp at hu⟩
  · rw [Htot.out, length_sealed, Hn.out]; omega
  rintro e w3 ⟨v, rfl, hown3, hb3⟩
  rw [Htot.out] at hown3
  go_wp2
  go_ret
  exact ⟨_, rfl, own_mono hown3 (by simp; omega), hb1.trans ((hal.mono hsz).trans (hb3.mono (by simp; omega)))⟩

/-- Whether bytes are sealed. -/
def opensB (l : List UInt8) : Bool := decide (4 ≤ l.length) && (l.drop (l.length - 4) == digs (sumOf (l.take (l.length - 4))) 4)
theorem opens_iff (l : List UInt8) : opensB l = true ↔ l = sealed (l.take (l.length - 4)) := by
  unfold opensB sealed
  simp only [Bool.and_eq_true, decide_eq_true_eq, beq_iff_eq]
  constructor
  · rintro ⟨_, h⟩
    conv => lhs; rw [← List.take_append_drop (l.length - 4) l, h]
  · intro h
    have hl := congrArg List.length h
    rw [List.length_append, length_digs, List.length_take] at hl
    refine ⟨by omega, ?_⟩
    have h' : l.take (l.length - 4) ++ l.drop (l.length - 4) = l.take (l.length - 4) ++ digs (sumOf (l.take (l.length - 4))) 4 := by rw [List.take_append_drop]; exact h
    exact List.append_cancel_left h'
theorem opens_sealed (l : List UInt8) : opensB (sealed l) = true := by
  rw [opens_iff, length_sealed, Nat.add_sub_cancel]
  congr 1
  rw [sealed, List.take_left]
theorem opens_le (l : List UInt8) (m : Nat) (h : l.length = m + 4) : opensB l = decide (le ((l.drop m).take 4) = sumOf (l.take m)) := by
  have hd : (l.drop m).length = 4 := by rw [List.length_drop]; omega
  unfold opensB
  rw [h, Nat.add_sub_cancel, List.take_of_length_le (l := l.drop m) (by omega)]
  have h4 : decide (4 ≤ m + 4) = true := decide_eq_true (by omega)
  rw [h4, Bool.true_and, Bool.eq_iff_iff, beq_iff_eq, decide_eq_true_eq]
  constructor
  · intro h'
    rw [h', le_digs_of_lt _ _ (by have := sumOf_lt (l.take m); omega)]
  · intro h'
    rw [← h', ← hd, digs_le]

/-- What 'x[:m]' is. -/
theorem run_cut (A : Option Addr) (n c m : Nat) (hm : m ≤ c) (u : World) : (Instr.sliceAt 37 (.slice A n c) none (some (.int .i64 (m : Int))) none).run Tryz.prog u = .ok (.slice A m c) u := by
  have h1 : (0 : Int) ≤ (m : Int) := by omega
  have h2 : (m : Int) ≤ (c : Int) := by omega
  have ht := Tryz.underlying37
  obtain ⟨i0, hi, _⟩ := info_parts info5
  unfold Instr.sliceAt Instr.slice Instr.sliceBounds
  simp [run_underlying ht, go_sem, sizeOf, typeInfo, h1, h2, hi]

/-- What stays while calls make memory. -/
theorem keepX {w w1 w2 : World} {A : Option Addr} {n c : Nat} {l : List UInt8} (hn : l.length = n) (hb : Below w1.heap.size w1 w2)
    (h : Rd w1 w1.heap.size A (bytesV l) ∧ (convert 37 9 (.slice A n c)).run Tryz.prog w1 = .ok (.string ⟨l.toArray⟩) w1 ∧ Below w.heap.size w w1) :
    Rd w2 w2.heap.size A (bytesV l) ∧ (convert 37 9 (.slice A n c)).run Tryz.prog w2 = .ok (.string ⟨l.toArray⟩) w2 ∧ Below w.heap.size w w2 := by
  obtain ⟨h1, _, h3⟩ := h
  have h4 := (h1.below hb).more hb.size
  exact ⟨h4, str_of hn h4, h3.trans (hb.mono h3.size)⟩

end Go.Proofs.YtcjkbmmjpkghlaaGreat

/-
  Package field's and the document's own Take and Fill, and the document's Same: what each call returns, and what it leaves.
-/
namespace Go.Proofs.YtcjkbmmjpkghlaaGreat
open Go.RowKit

theorem info23 : (Tryz.prog.info? 41).map (fun i => (i.zero, i.size, i.bytes)) = some (some (.int .u64 0), 1, 8) := by kernel_rfl

theorem make_nums (n : Nat) (h : n ≤ 65536) (u : World) : (Instr.makeSlice 203 (.int .i64 (n : Int)) (.int .i64 (n : Int))).run Tryz.prog u =
    .ok (.slice (some ⟨u.heap.size, 0, none⟩) n n) (u.alloc (.cells (numsV (List.replicate n 0)).toArray 41)) := by
  obtain ⟨i0, hi, hz0, hz1, hz2⟩ := info_parts info23
  have hr := run_make (P := Tryz.prog) u 203 41 i0 (.int .u64 0) Tryz.underlying203 hi hz0 .i64 .i64 (n : Int) (n : Int) (by omega) (Int.le_refl _) (by rw [hz2]; omega) (by omega)
  have e : (madeCells (Value.int .u64 0).cells (n * i0.size)) = (numsV (List.replicate n 0)).toArray := by
    apply Array.ext'
    rw [hz1, Nat.mul_one]
    have := toList_madeCells_one (.int .u64 0) n
    simp [numsV, numV] at this ⊢
    exact this
  simp only [Int.toNat_natCast, e] at hr
  exact hr

/-- append onto an own row of numbers. -/
theorem wpList_app23 (w : World) {ops : Array Oper} {rest : List Oper} {o : Oper} {a : Act} {Q : Exit → Act → World → Prop} (hgd : o.guard = none) (s x : Operand)
    (ho : o.op = .call { callee := .builtin .append, args := #[s, x], argTypes := #[203, 203] })
    (base : Nat) (v : Value) (n : Nat) (l : List Nat) (hs : a.eval s = v) (hown : w.ownsRow base 41 1 v n (numsV l))
    (B : Nat) (A : Option Addr) (m c : Nat) (k : List Nat) (hx : a.eval x = .slice A m c) (hm : k.length = m) (hr : Rd w B A (numsV k))
    (hbytes : (n + m) * 8 ≤ 140737488355328) (hbase : base ≤ w.heap.size)
    (h : ∀ v' w', w'.ownsRow base 41 1 v' (n + m) (numsV (l ++ k)) → w.grownBy w' v.ownBlock → wpList Tryz.prog ops Q rest (a.put o.dst v') w') : wpList Tryz.prog ops Q (o :: rest) a w := by
  obtain ⟨i0, hi, hz0, hz1, hz2⟩ := info_parts info23
  rw [numsV_append] at h
  exact wpList_app w hgd s x 203 ho base 41 i0 _ 8 Tryz.underlying203 hi hz0 hz1 hz2 rfl v n _ hs hown B A m c _ hx (by rw [length_numsV, hm]) hr (numsV_one _) (by simp only [maxLen]; omega) hbytes hbase h

/-- A new row of numbers is handed back, and nothing that was there is changed. -/
def MadeN (w : World) (l : List Nat) (v : Value) (w' : World) : Prop := w'.ownsRow w.heap.size 41 1 v l.length (numsV l) ∧ Below w.heap.size w w'

/-- Of a list that is being filled. -/
def partly (T : List Nat) (j : Nat) : List Nat := T.take j ++ List.replicate (T.length - j) 0
theorem partly_all (T : List Nat) : partly T T.length = T := by simp [partly]
theorem partly_zero (T : List Nat) : partly T 0 = List.replicate T.length 0 := by simp [partly]
theorem length_partly (T : List Nat) (j : Nat) (h : j ≤ T.length) : (partly T j).length = T.length := by simp [partly]; omega
theorem partly_step (T : List Nat) (j : Nat) (x : Nat) (h : T[j]? = some x) : (partly T j).set j x = partly T (j + 1) := by
  obtain ⟨hj, rfl⟩ := List.getElem?_eq_some_iff.1 h
  unfold partly
  have hl : (T.take j).length = j := by simp; omega
  rw [List.set_append_right _ _ (by omega), hl, Nat.sub_self, show T.length - j = (T.length - (j + 1)) + 1 by omega, List.replicate_succ, List.set_cons_zero, List.take_succ_eq_append_getElem hj, List.append_assoc]
  rfl
theorem numsV_set (l : List Nat) (j x : Nat) : (numsV l).set j (numV x) = numsV (l.set j x) := by simp [numsV, List.map_set]

def Taking (w : World) (g : Nat) (T : List Nat) (j : Nat) (wr : World) : Prop := Bk wr g 41 (numsV (partly T j)) ∧ w.grownBy wr (some g)
theorem taking_step {w wr : World} {g : Nat} {T : List Nat} {j x : Nat} (h : Taking w g T j wr) (hx : T[j]? = some x) : Taking w g T (j + 1) (wr.setCell ⟨g, j, none⟩ (.int .u64 (x : Int))) := by
  refine ⟨?_, only_set h.2 _ _⟩
  have := h.1.set j (numV x)
  rw [numsV_set, partly_step T j x hx] at this
  exact this
theorem taking_cell {w wr : World} {g : Nat} {T : List Nat} {j : Nat} (h : Taking w g T j wr) (hj : j < T.length) : (∃ v, wr.cell? ⟨g, j, none⟩ = some v) ∧ wr.frozen? ⟨g, j, none⟩ = false := by
  refine ⟨?_, h.1.frozen _⟩
  rw [h.1.cell]
  have hl : j < (numsV (partly T j)).length := by rw [length_numsV, length_partly _ _ (by omega)]; exact hj
  exact ⟨_, List.getElem?_eq_getElem hl⟩

set_option maxHeartbeats 400000 in
theorem take_ok (l : List UInt8) (A : Option Addr) (n c m size : Nat) (w : World) (hn : l.length = n) (hr : Rd w w.heap.size A (bytesV l)) (hc : n ≤ c) (hs8 : size ≤ 8) (hs1 : 1 ≤ size) (hm : n = m * size) (h4 : n ≤ 4096) :
    Calls Tryz.prog 175 #[.int .i64 size, .slice A n c] w fun e w' => ∃ v, e = .returned (.tuple #[v, .int .i64 0]) ∧ MadeN w (takel size l) v w' := by
  have hs0 : (size : Int) ≠ 0 := by omega
  have hdiv : (n : Int) / (size : Int) = (m : Int) := by rw [hm, Int.natCast_mul]; exact Int.mul_ediv_cancel _ hs0
  have hmod : (n : Int) % (size : Int) = 0 := by rw [hm, Int.natCast_mul]; exact Int.mul_emod_left _ _
  have hmn : m ≤ 4096 := Nat.le_trans (Nat.le_mul_of_pos_right m (by omega)) (hm ▸ h4)
  have hT : (takel size l).length = m := by rw [length_takel, hn, hm]; exact Nat.mul_div_cancel _ (by omega)
  have hmk := make_nums m (by omega)
  have hbk := Bk.new w 41 (numsV (List.replicate m 0))
  have hbel : Below w.heap.size w (w.alloc (.cells (numsV (List.replicate m 0)).toArray 41)) := (Below.refl _ _).alloc (Nat.le_refl _) _
  have hsrc := hr.below hbel
  obtain ⟨z, hz⟩ : ∃ z, z = (numsV (List.replicate m 0)).toArray := ⟨_, rfl⟩
  unfold Bk at hbk
  rw [← hz] at hmk hbk hbel hsrc
  have hlay : Taking (w.alloc (.cells z 41)) w.heap.size (takel size l) 0 (w.alloc (.cells z 41)) := ⟨by unfold Bk; rw [partly_zero, hT, hbk, hz], World.grownBy.refl _ _⟩
  have Hn := Lib.hid hn
  have Hm := Lib.hid hm
  have HT := Lib.hid hT
  clear hn hm hT hbk hz hr
  go_enter Tryz.func175, Tryz.ntmps175
  go_wp2_with (go_at_call 190; refine (isSize_true _ _ (by omega) (by omega)).mono ?_; rintro e w' ⟨rfl, rfl⟩)
  clear hmod hdiv
  go_loopw [28] (fun k wr => ∃ j : Nat, j ≤ m ∧ k = .int .i64 j ∧ Taking (w.alloc (.cells z 41)) w.heap.size (takel size l) j wr) (fun k _ => m - (intOf k).toNat)
  case atStart => exact ⟨0, Nat.zero_le _, rfl, hlay⟩
  case round =>
    obtain ⟨j, hj, rfl, hst⟩ := hrel
    by_cases hlt : j < m
    · have hrd := rd_grown hsrc hst.2 (by simp) (Nat.le_refl _)
      have hjm : (j : Int) * (size : Int) + size ≤ n := by
        have : (j + 1) * size ≤ m * size := Nat.mul_le_mul_right _ (by omega)
        rw [Nat.add_mul] at this
        have := Hm.out
        omega
      have hj0 : 0 ≤ (j : Int) * (size : Int) := by have := Nat.zero_le (j * size); omega
      have hne : ¬ (c = j * size) := by omega
      have hd := hrd.drop (k := j * size) (c := c) (by rw [length_bytesV, Hn.out]; omega) (by rw [length_bytesV, Hn.out]; omega)
      rw [if_neg hne, ← bytesV_drop] at hd
      have Hld := Lib.hid (show (l.drop (j * size)).length = n - j * size by rw [List.length_drop, Hn.out])
      have hx : (takel size l)[j]? = some (le ((l.drop (j * size)).take size)) := getElem?_takel size l j (by rw [← length_takel, HT.out]; exact hlt)
      have hstep := taking_step hst hx
      obtain ⟨⟨v, hcell⟩, hfr⟩ := taking_cell hst (by rw [HT.out]; exact hlt)
      clear hst hx hsrc hrd
      go_wp2_with (first
        | (go_at_call 207; refine (load_any (l.drop (j * size)) _ _ _ _ size _ Hld.out hd (by omega) hs8 hs1).mono ?_; rintro e w' ⟨rfl, rfl⟩))
      go_roundw
      case rel => exact ⟨j + 1, by omega, by go_num, hstep⟩
      case measure => simp [intOf]; omega
    · go_wp2
      go_ret2
      obtain rfl : j = m := by omega
      have hb := hst.1
      rw [← HT.out, partly_all] at hb
      refine ⟨_, rfl, ?_, hbel.trans (below_of_only hst.2 hbel.size (Nat.le_refl _))⟩
      rw [HT.out]
      exact hb.own j (by rw [length_numsV, HT.out]) (Nat.le_refl _) (by simp only [maxLen]; omega)

theorem take_long (A : Option Addr) (n c size : Nat) (w : World) (hs8 : size ≤ 8) (hs1 : 1 ≤ size) (hm : (n : Int) % (size : Int) = 0) (h4 : 4096 < n) :
    Calls Tryz.prog 175 #[.int .i64 size, .slice A n c] w fun e w' => e = .returned (.tuple #[.slice none 0 0, .int .i64 4]) ∧ w = w' := by
  go_enter Tryz.func175, Tryz.ntmps175
  go_wp2_with (go_at_call 190; refine (isSize_true _ _ (by omega) (by omega)).mono ?_; rintro e w' ⟨rfl, rfl⟩)
  go_ret2
  exact ⟨rfl, rfl⟩
theorem take_parts (A : Option Addr) (n c size : Nat) (w : World) (hs8 : size ≤ 8) (hs1 : 1 ≤ size) (hm : ((n : Int) % (size : Int) != 0) = true) :
    Calls Tryz.prog 175 #[.int .i64 size, .slice A n c] w fun e w' => e = .returned (.tuple #[.slice none 0 0, .int .i64 1]) ∧ w = w' := by
  go_enter Tryz.func175, Tryz.ntmps175
  go_wp2_with (go_at_call 190; refine (isSize_true _ _ (by omega) (by omega)).mono ?_; rintro e w' ⟨rfl, rfl⟩)
  go_ret2
  exact ⟨rfl, rfl⟩
theorem take_arg (A : Option Addr) (n c : Nat) (size : Int) (w : World) (h : ¬ (1 ≤ size ∧ size ≤ 8)) :
    Calls Tryz.prog 175 #[.int .i64 size, .slice A n c] w fun e w' => e = .returned (.tuple #[.slice none 0 0, .int .i64 1]) ∧ w = w' := by
  have H := Lib.hid h
  clear h
  go_enter Tryz.func175, Tryz.ntmps175
  go_wp2_with (go_at_call 190; refine (isSize_false _ _ H.out).mono ?_; rintro e w' ⟨rfl, rfl⟩)
  go_ret2
  exact ⟨rfl, rfl⟩

def lenIn : Value → Nat
  | .slice _ k _ => k
  | _ => 0
theorem rd_new (w : World) (u : Value) (e : TypeId) : Rd (w.alloc (.cells #[u] e)) (w.heap.size + 1) (some ⟨w.heap.size, 0, none⟩) [u] :=
  .inr ⟨w.heap.size, 0, rfl, Nat.lt_succ_self _, fun i v hv => by
    rw [Nat.zero_add, World.cell?_alloc_at _ _ _ _ rfl]
    simpa using hv⟩

theorem fill_arg (A : Option Addr) (n c : Nat) (size : Int) (w : World) (h : size < 0) :
    Calls Tryz.prog 155 #[.slice A n c, .int .i64 size] w fun e w' => e = .returned (.tuple #[.slice none 0 0, .int .i64 1]) ∧ w = w' := by
  go_enter Tryz.func155, Tryz.ntmps155
  go_wp2
  go_ret2
  exact ⟨rfl, rfl⟩
theorem fill_long (A : Option Addr) (n c size : Nat) (w : World) (h : size < n ∨ 4096 < size) :
    Calls Tryz.prog 155 #[.slice A n c, .int .i64 size] w fun e w' => e = .returned (.tuple #[.slice none 0 0, .int .i64 4]) ∧ w = w' := by
  by_cases h1 : size < n
  · clear h
    go_enter Tryz.func155, Tryz.ntmps155
    go_wp2
    go_ret2
    exact ⟨rfl, rfl⟩
  · have h2 : 4096 < size := by omega
    clear h
    go_enter Tryz.func155, Tryz.ntmps155
    go_wp2
    go_ret2
    exact ⟨rfl, rfl⟩
theorem fill_ok (l : List UInt8) (A : Option Addr) (n c size : Nat) (w : World) (hn : l.length = n) (hr : Rd w w.heap.size A (bytesV l)) (hs : n ≤ size) (hm : size ≤ 4096) :
    Calls Tryz.prog 155 #[.slice A n c, .int .i64 size] w fun e w' => ∃ v, e = .returned (.tuple #[v, .int .i64 0]) ∧ Made w (padl l size) v w' := by
  have H := Lib.hid hn
  clear hn
  go_enter Tryz.func155, Tryz.ntmps155
  go_wp2_with (go_at_call 193; refine (padded_any l _ _ _ _ _ H.out hr hs (by omega)).mono ?_; rintro e w1 ⟨rfl, hp⟩)
  go_ret2
  have hl : (padl l size).length = size := length_padl l size (by rw [H.out]; exact hs)
  refine ⟨_, rfl, ?_, hp.2⟩
  rw [hl]
  exact hp.1.own size (by rw [length_bytesV, hl]) (Nat.le_refl _) (by simp only [maxLen]; omega)

end Go.Proofs.YtcjkbmmjpkghlaaGreat

/-
  From a walk to a statement: what an argument's slice holds; that a call which returns true and leaves all that was there as it was meets a statement's postcondition.
-/
namespace Go.Proofs.YtcjkbmmjpkghlaaGreat
open Go.ChangeShapes Go.WideShapes Go.ChangeAt Go.RowKit

section
variable {H : Type} {enc : TypeId × Value → H} {P : Program}

theorem below_trod {W W' : World} {t : TypeId} (hl : laidOutB P = true) (hr : P.readableRec t = true) (hrow : t < P.types.size) (hb : Below W.heap.size W W') {sp : Nat → Bool} {v : Value} {d : DataW H} {ps : List MemPlace}
    (h : DataW.Trod enc P W 0 (fun _ => true) true t v d ps) (hlt : ∀ p ∈ ps, p.block < W.heap.size) (hs : ∀ p ∈ ps, sp p.block = true) : DataW.Trod enc P W' 0 sp true t v d ps :=
  WideElems.Trod_stays hl hr hrow h (fun p hp => hb.same (hlt p hp)) hs

theorem below_trodAll {W W' : World} (hl : laidOutB P = true) (hb : Below W.heap.size W W') {sp : Nat → Bool} : ∀ {ts : List TypeId} {vs : List Value} {ds : List (DataW H)} {ps : List MemPlace},
    (∀ t ∈ ts, P.readableRec t = true ∧ t < P.types.size) → DataW.TrodAll enc P W 0 (fun _ => true) true ts vs ds ps → (∀ p ∈ ps, p.block < W.heap.size) → (∀ p ∈ ps, sp p.block = true) → DataW.TrodAll enc P W' 0 sp true ts vs ds ps := by
  intro ts
  induction ts with
  | nil =>
    intro vs ds ps _ h _ _
    obtain ⟨rfl, rfl, rfl⟩ := trodAll_nil h
    exact trodAll_mk0
  | cons t ts ih =>
    intro vs ds ps ht h hlt hs
    obtain ⟨v, vs', d, ds', p, q, rfl, rfl, rfl, h1, h2⟩ := trodAll_cons h
    exact trodAll_cons_mk (below_trod hl (ht t (by simp)).1 (ht t (by simp)).2 hb h1 (fun p hp => hlt p (by simp [hp])) (fun p hp => hs p (by simp [hp])))
      (ih (fun t ht' => ht t (by simp [ht'])) h2 (fun p hp => hlt p (by simp [hp])) (fun p hp => hs p (by simp [hp])))

/-- A statement's postcondition: true is returned, and all that was there is as it was. -/
theorem law_post {f : Func} {s : ChangeSpec} {tb : TypeId} {W W' : World} {args : Array Value} {ds gs : List (DataW H)} {before : List MemPlace} (hl : laidOutB P = true) (hres : f.resultTypes = #[tb]) (hub : P.underlying tb = some .bool)
    (hp : ∀ t ∈ f.params.toList, P.readableRec t = true ∧ t < P.types.size) (hv : s.vars = []) (hW : DataW.Whole enc P f.params.toList s.vars false W args.toList ds gs before)
    (hfn : (s.fn H (ds ++ gs)).results = [.lit (.bool true)] ∧ (s.fn H (ds ++ gs)).args = ds ∧ (s.fn H (ds ++ gs)).vars = []) (hb : Below W.heap.size W W') : s.post enc P f false true false false W args (.bool true) W' := by
  have hlt : ∀ p ∈ before, p.block < W.heap.size := fun p hp => hW.lt p hp
  have hW' := hW
  obtain ⟨p, q, hA, hV, rfl, _, _⟩ := hW
  rw [hv] at hV
  obtain ⟨rfl, rfl⟩ := trodVars_none hV
  rw [List.append_nil] at hlt hW'
  refine ⟨ds, [], p, [], p, [], hW', ?_, ?_, ?_, ?_, fun h => by cases h⟩
  · rw [hfn.1, hres]
    exact trodAll_mk1 (shut_bool hub _)
  · rw [hfn.2.1]
    exact below_trodAll hl hb hp hA hlt (fun p hp => by simpa using hlt p hp)
  · rw [hfn.2.2, hv]
    exact rfl
  · exact hb.frame _

theorem open_bytesL {t e : TypeId} (ht : P.underlying t = some (.slice e)) (he : P.underlying e = some (.int .u8)) (hc : P.cellsOf e = 1) {W : World} {base : Nat} {v : Value} {d : DataW H} {p : List MemPlace}
    (hval : Value.okWide P W .any base t v) (h : DataW.Trod enc P W 0 (fun _ => true) true t v d p) (hlt : ∀ x ∈ p, x.block < W.heap.size) :
    ∃ (A : Option Addr) (n c : Nat) (l : List UInt8), v = .slice A n c ∧ l.length = n ∧ n ≤ c ∧ c ≤ maxLen ∧ Rd W W.heap.size A (bytesV l) := by
  obtain ⟨a1, len, cap, rfl⟩ := okWide_slice ht hval
  obtain ⟨fuel, hf⟩ := h
  rcases open_ints ht he hc hf with ⟨hcs, hx⟩ | ⟨a, len', cap', zs, hcs, _, hl, hm, hz, hx, hcell, hwz⟩
  · simp [Value.cells] at hcs
    obtain ⟨rfl, rfl, rfl⟩ := hcs
    exact ⟨none, 0, 0, [], rfl, rfl, Nat.le_refl _, Nat.zero_le _, .inl rfl⟩
  · simp [Value.cells] at hcs
    obtain ⟨rfl, rfl, rfl⟩ := hcs
    simp only [Prod.mk.injEq] at hx
    obtain ⟨rfl, rfl⟩ := hx
    simp only [if_true] at hz
    refine ⟨some a, len, cap, (zs.take len).map fun n => UInt8.ofNat n.toNat, rfl, by simp; omega, hl, hm, ?_⟩
    by_cases h0 : len = 0
    · subst h0; exact .inl (by simp [bytesV])
    · obtain ⟨ab, ao, spot⟩ := a
      have hspot : spot = none := by simpa [Addr.add] using World.cell?_spot (hcell 0 (by omega))
      subst hspot
      refine .inr ⟨ab, ao, rfl, hlt (.cell ab ao) (by simp only [MemPlace.row, List.mem_map, List.mem_range]; exact ⟨0, by omega, rfl⟩), fun j u hu => ?_⟩
      have hj : j < len := by
        have := (List.getElem?_eq_some_iff.1 hu).1
        simp [bytesV] at this
        omega
      have hcj := hcell j (by omega)
      rw [Addr.add_lit] at hcj
      rw [hcj, ← hu]
      have hb := range_u8 hwz j
      have e2 : zs[j]? = some (zs[j]'(by omega)) := List.getElem?_eq_getElem (by omega)
      rw [e2] at hb
      simp [bytesV, byteV, hj, e2]
      simp only [Option.getD_some] at hb
      omega

theorem open_numsL {t e : TypeId} (ht : P.underlying t = some (.slice e)) (he : P.underlying e = some (.int .u64)) (hc : P.cellsOf e = 1) {W : World} {base : Nat} {v : Value} {d : DataW H} {p : List MemPlace}
    (hval : Value.okWide P W .any base t v) (h : DataW.Trod enc P W 0 (fun _ => true) true t v d p) (hlt : ∀ x ∈ p, x.block < W.heap.size) :
    ∃ (A : Option Addr) (n c : Nat) (l : List Nat), v = .slice A n c ∧ l.length = n ∧ n ≤ c ∧ c ≤ maxLen ∧ Rd W W.heap.size A (numsV l) ∧ ∀ x ∈ l, x < 18446744073709551616 := by
  obtain ⟨a1, len, cap, rfl⟩ := okWide_slice ht hval
  obtain ⟨fuel, hf⟩ := h
  rcases open_ints ht he hc hf with ⟨hcs, hx⟩ | ⟨a, len', cap', zs, hcs, _, hl, hm, hz, hx, hcell, hwz⟩
  · simp [Value.cells] at hcs
    obtain ⟨rfl, rfl, rfl⟩ := hcs
    exact ⟨none, 0, 0, [], rfl, rfl, Nat.le_refl _, Nat.zero_le _, .inl rfl, by simp⟩
  · simp [Value.cells] at hcs
    obtain ⟨rfl, rfl, rfl⟩ := hcs
    simp only [Prod.mk.injEq] at hx
    obtain ⟨rfl, rfl⟩ := hx
    simp only [if_true] at hz
    refine ⟨some a, len, cap, (zs.take len).map fun n => n.toNat, rfl, by simp; omega, hl, hm, ?_, ?_⟩
    · by_cases h0 : len = 0
      · subst h0; exact .inl (by simp [numsV])
      · obtain ⟨ab, ao, spot⟩ := a
        have hspot : spot = none := by simpa [Addr.add] using World.cell?_spot (hcell 0 (by omega))
        subst hspot
        refine .inr ⟨ab, ao, rfl, hlt (.cell ab ao) (by simp only [MemPlace.row, List.mem_map, List.mem_range]; exact ⟨0, by omega, rfl⟩), fun j u hu => ?_⟩
        have hj : j < len := by
          have := (List.getElem?_eq_some_iff.1 hu).1
          simp [numsV] at this
          omega
        have hcj := hcell j (by omega)
        rw [Addr.add_lit] at hcj
        rw [hcj, ← hu]
        have hb := range_u64 hwz j
        have e2 : zs[j]? = some (zs[j]'(by omega)) := List.getElem?_eq_getElem (by omega)
        rw [e2] at hb
        simp [numsV, numV, hj, e2]
        simp only [Option.getD_some] at hb
        omega
    · intro x hx
      simp only [List.mem_map] at hx
      obtain ⟨z, hz, rfl⟩ := hx
      have := bounds_u64 (hwz z (List.mem_of_mem_take hz))
      omega
end
end Go.Proofs.YtcjkbmmjpkghlaaGreat
