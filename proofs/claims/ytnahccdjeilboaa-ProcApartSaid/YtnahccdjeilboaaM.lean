/-
  Plain facts on little-endian numbers: what bytes stand for, and the bytes of a number. No program occurs here.
-/
import Derived.Laws.BitsAllLaws
import Derived.Laws.Bits64
import Derived.Laws.BitsLemmas
import Derived.Below
namespace Go.Proofs.Ytnahccdjeilboaa
open Go.RowKit

/-- The number whose bytes those are, the least one first. -/
def le : List UInt8 → Nat
  | [] => 0
  | b :: r => b.toNat + 256 * le r

/-- A number's bytes, so many. -/
def digs (n : Nat) : Nat → List UInt8
  | 0 => []
  | k + 1 => UInt8.ofNat (n % 256) :: digs (n / 256) k

theorem length_digs (n k : Nat) : (digs n k).length = k := by
  induction k generalizing n with
  | zero => rfl
  | succ k ih => simp [digs, ih]

theorem le_lt (l : List UInt8) : le l < 256 ^ l.length := by
  induction l with
  | nil => simp [le]
  | cons b r ih =>
    have := b.toNat_lt
    simp only [le, List.length_cons, Nat.pow_succ]
    omega

theorem le_append (a b : List UInt8) : le (a ++ b) = le a + 256 ^ a.length * le b := by
  induction a with
  | nil => simp [le]
  | cons x r ih =>
    simp only [List.cons_append, le, ih, List.length_cons, Nat.pow_succ, Nat.mul_add]
    have : 256 * (256 ^ r.length * le b) = 256 ^ r.length * 256 * le b := by rw [← Nat.mul_assoc, Nat.mul_comm 256]
    omega

theorem le_take_succ (l : List UInt8) (j : Nat) (h : j < l.length) : le (l.take (j + 1)) = le (l.take j) + 256 ^ j * l[j].toNat := by
  rw [List.take_succ_eq_append_getElem h, le_append]
  simp [le, Nat.min_eq_left (Nat.le_of_lt h)]

theorem pow_le8 (k : Nat) (h : k ≤ 8) : 256 ^ k ≤ 18446744073709551616 := by
  have : 256 ^ k ≤ 256 ^ 8 := Nat.pow_le_pow_right (by omega) h
  simpa using this

theorem le_lt64 (l : List UInt8) (h : l.length ≤ 8) : le l < 18446744073709551616 := by
  have := le_lt l
  have := pow_le8 l.length h
  omega

theorem le_digs (n k : Nat) : le (digs n k) = n % 256 ^ k := by
  induction k generalizing n with
  | zero => simp [digs, le, Nat.mod_one]
  | succ k ih =>
    have h1 : (UInt8.ofNat (n % 256)).toNat = n % 256 := by simp
    simp only [digs, le, ih, h1, Nat.pow_succ]
    rw [Nat.mul_comm (256 ^ k) 256, Nat.mod_mul]

theorem le_digs_of_lt (n k : Nat) (h : n < 256 ^ k) : le (digs n k) = n := by rw [le_digs, Nat.mod_eq_of_lt h]

theorem digs_le (l : List UInt8) : digs (le l) l.length = l := by
  induction l with
  | nil => rfl
  | cons b r ih =>
    have hb := b.toNat_lt
    have h1 : (b.toNat + 256 * le r) % 256 = b.toNat := by omega
    have h2 : (b.toNat + 256 * le r) / 256 = le r := by omega
    simp only [List.length_cons, digs, le, h1, h2, ih]
    simp

theorem two_pow_eq (j : Nat) : 2 ^ (8 * j) = 256 ^ j := by rw [Nat.pow_mul]

theorem getElem?_digs (n k i : Nat) (h : i < k) : (digs n k)[i]? = some (UInt8.ofNat (n / 256 ^ i % 256)) := by
  induction k generalizing n i with
  | zero => omega
  | succ k ih =>
    cases i with
    | zero => simp [digs]
    | succ i =>
      simp only [digs, List.getElem?_cons_succ]
      rw [ih _ _ (by omega), Nat.div_div_eq_div_mul, Nat.pow_succ, Nat.mul_comm 256]

theorem digs_succ (n k : Nat) : digs n (k + 1) = digs n k ++ [UInt8.ofNat (n / 256 ^ k % 256)] := by
  induction k generalizing n with
  | zero => simp [digs]
  | succ k ih =>
    rw [digs, ih, digs]
    simp [Nat.div_div_eq_div_mul, Nat.pow_succ, Nat.mul_comm]

/-- One round of load. -/
theorem load_step (l : List UInt8) (j : Nat) (h : j < l.length) (h8 : j < 8) :
    bits .or .u64 (le (l.take j) : Int) (IntKind.u64.wrap (IntKind.u64.wrap (l[j].toNat : Int) * 2 ^ (8 * j))) = (le (l.take (j + 1)) : Int) := by
  have hb := l[j].toNat_lt
  have hp : 256 ^ (j + 1) ≤ 18446744073709551616 := pow_le8 _ (by omega)
  have h1 : le (l.take j) < 256 ^ j := by
    have := le_lt (l.take j)
    rwa [List.length_take, Nat.min_eq_left (Nat.le_of_lt h)] at this
  have h2 : l[j].toNat * 256 ^ j < 256 ^ (j + 1) := by
    rw [Nat.pow_succ, Nat.mul_comm]
    exact Nat.mul_lt_mul_of_pos_left hb (Nat.pow_pos (by omega))
  have e1 : IntKind.u64.wrap (l[j].toNat : Int) = (l[j].toNat : Int) := by rw [IntKind.wrap_u64]; omega
  have e2 : ((l[j].toNat : Int) * 2 ^ (8 * j)) = ((l[j].toNat * 256 ^ j : Nat) : Int) := by
    rw [← two_pow_eq]; simp
  have e3 : IntKind.u64.wrap ((l[j].toNat * 256 ^ j : Nat) : Int) = ((l[j].toNat * 256 ^ j : Nat) : Int) := by rw [IntKind.wrap_u64]; omega
  have h3 : 256 ^ j ≤ 18446744073709551616 := pow_le8 _ (by omega)
  rw [e1, e2, e3, u64_or_nat _ _ (by omega) (by omega)]
  have e4 : le (l.take j) ||| l[j].toNat * 256 ^ j = le (l.take j) + 256 ^ j * l[j].toNat := by
    have := Nat.two_pow_add_eq_or_of_lt (i := 8 * j) (b := le (l.take j)) (by rw [two_pow_eq]; exact h1) l[j].toNat
    rw [two_pow_eq] at this
    rw [Nat.or_comm, Nat.mul_comm, ← this, Nat.add_comm]
  rw [e4, le_take_succ l j h]

/-- Does a number stand in so many bytes? -/
def fitB (n size : Nat) : Bool := decide (n < 256 ^ size)

theorem fit_shift (n size : Nat) : (((n : Int) / 2 ^ (8 * size)) == 0) = fitB n size := by
  have e : ((n : Int) / 2 ^ (8 * size)) = ((n / 256 ^ size : Nat) : Int) := by rw [← two_pow_eq]; simp
  rw [e, Bool.eq_iff_iff, beq_iff_eq]
  have hp : 0 < 256 ^ size := Nat.pow_pos (by omega)
  have h1 : n / 256 ^ size = 0 ↔ n < 256 ^ size := by rw [Nat.div_eq_zero_iff]; omega
  simp only [fitB, decide_eq_true_eq]
  rw [← h1]
  omega

theorem fit8 (n : Nat) (h : n < 18446744073709551616) : fitB n 8 = true := by simp [fitB]; omega

theorem fit_lt (n size : Nat) : decide ((n : Int) < 256 ^ size) = fitB n size := by
  rw [Bool.eq_iff_iff]
  have e : (256 : Int) ^ size = ((256 ^ size : Nat) : Int) := by simp
  simp only [fitB, decide_eq_true_eq]
  rw [e]
  omega

theorem power_step (j : Nat) (h : j + 1 ≤ 7) : IntKind.u64.wrap ((256 : Int) ^ j * 256) = ((256 ^ (j + 1) : Nat) : Int) := by
  have h1 : 256 ^ (j + 1) ≤ 256 ^ 7 := Nat.pow_le_pow_right (by omega) h
  have h2 : (256 : Nat) ^ 7 < 18446744073709551616 := by decide
  have e : (256 : Int) ^ j * 256 = ((256 ^ (j + 1) : Nat) : Int) := by rw [Nat.pow_succ]; simp
  rw [e, IntKind.wrap_u64]
  generalize 256 ^ (j + 1) = q at *
  omega

/-- One round of At. -/
theorem at_step (T : List UInt8) (i : Nat) (b : UInt8) (h : T[i]? = some b) (h8 : T.length ≤ 8) :
    IntKind.u64.wrap (IntKind.u64.wrap ((le (T.drop (i + 1)) : Int) * 256) + IntKind.u64.wrap (b.toNat : Int)) = (le (T.drop i) : Int) := by
  obtain ⟨hi, rfl⟩ := List.getElem?_eq_some_iff.1 h
  have e : T.drop i = T[i] :: T.drop (i + 1) := List.drop_eq_getElem_cons hi
  have h1 := le_lt64 (T.drop i) (by simp; omega)
  rw [e] at h1 ⊢
  simp only [le] at h1 ⊢
  have hb := T[i].toNat_lt
  rw [IntKind.wrap_u64, IntKind.wrap_u64, IntKind.wrap_u64]
  omega

/-- A list with another one laid over it, from a place on. -/
def put {α : Type} (l : List α) (o : Nat) (d : List α) : List α := l.take o ++ d ++ l.drop (o + d.length)
theorem length_put {α : Type} (l : List α) (o : Nat) (d : List α) (h : o + d.length ≤ l.length) : (put l o d).length = l.length := by
  simp [put]; omega
theorem put_nil {α : Type} (l : List α) (o : Nat) : put l o [] = l := by simp [put]
theorem put_snoc {α : Type} (l : List α) (o : Nat) (d : List α) (x : α) (k : Nat) (hk : k = o + d.length) (h : k < l.length) : (put l o d).set k x = put l o (d ++ [x]) := by
  subst hk
  have e : l.drop (o + d.length) = l[o + d.length] :: l.drop (o + d.length + 1) := List.drop_eq_getElem_cons h
  have hl : (l.take o ++ d).length = o + d.length := by simp; omega
  unfold put
  rw [e, List.set_append_right _ _ (by omega), hl]
  simp [List.append_assoc, Nat.add_assoc]
theorem map_put {α β : Type} (f : α → β) (l : List α) (o : Nat) (d : List α) : (put l o d).map f = put (l.map f) o (d.map f) := by
  simp [put, List.map_take, List.map_drop]
theorem put_all {α : Type} (l d : List α) (h : d.length = l.length) : put l 0 d = d := by
  simp [put, h]

/-- Numbers, one behind the other, in so many bytes each. -/
def layl (size : Nat) : List Nat → List UInt8
  | [] => []
  | n :: r => digs n size ++ layl size r
theorem length_layl (size : Nat) (L : List Nat) : (layl size L).length = L.length * size := by
  induction L with
  | nil => simp [layl]
  | cons n r ih => simp [layl, ih, length_digs, Nat.add_mul]; omega
theorem layl_append (size : Nat) (L K : List Nat) : layl size (L ++ K) = layl size L ++ layl size K := by
  induction L with
  | nil => rfl
  | cons n r ih => simp [layl, ih]
theorem layl_take_succ (size : Nat) (L : List Nat) (j : Nat) (h : j < L.length) : layl size (L.take (j + 1)) = layl size (L.take j) ++ digs L[j] size := by
  rw [List.take_succ_eq_append_getElem h, layl_append]
  simp [layl]
/-- Those of the first ones, and bytes 0 for the others. -/
def filled (size : Nat) (L : List Nat) (j : Nat) : List UInt8 := layl size (L.take j) ++ List.replicate ((L.length - j) * size) 0
theorem filled_zero (size : Nat) (L : List Nat) : filled size L 0 = List.replicate (L.length * size) 0 := by simp [filled, layl]
theorem filled_all (size : Nat) (L : List Nat) : filled size L L.length = layl size L := by simp [filled]
theorem length_filled (size : Nat) (L : List Nat) (j : Nat) (h : j ≤ L.length) : (filled size L j).length = L.length * size := by
  have e : L.length * size = j * size + (L.length - j) * size := by rw [← Nat.add_mul]; congr 1; omega
  simp [filled, length_layl, Nat.min_eq_left h, e]
theorem filled_step (size : Nat) (L : List Nat) (j : Nat) (h : j < L.length) : put (filled size L j) (j * size) (digs L[j] size) = filled size L (j + 1) := by
  have hl : (layl size (L.take j)).length = j * size := by simp [length_layl, Nat.min_eq_left (Nat.le_of_lt h)]
  have e : (L.length - j) * size - size = (L.length - (j + 1)) * size := by
    rw [show L.length - j = (L.length - (j + 1)) + 1 by omega, Nat.add_mul]; omega
  have h1 : (filled size L j).take (j * size) = layl size (L.take j) := by
    unfold filled; rw [← hl]; exact List.take_left
  have h2 : (filled size L j).drop (j * size + size) = List.replicate ((L.length - (j + 1)) * size) 0 := by
    unfold filled
    rw [← List.drop_drop, ← hl, List.drop_left, List.drop_replicate, e]
  unfold put
  rw [length_digs, h1, h2, ← layl_take_succ size L j h]
  rfl

/-- The numbers that stand in bytes, in so many bytes each. -/
def takel (size : Nat) (l : List UInt8) : List Nat := (List.range (l.length / size)).map fun k => le ((l.drop (k * size)).take size)
theorem length_takel (size : Nat) (l : List UInt8) : (takel size l).length = l.length / size := by simp [takel]
theorem getElem?_takel (size : Nat) (l : List UInt8) (j : Nat) (h : j < l.length / size) : (takel size l)[j]? = some (le ((l.drop (j * size)).take size)) := by
  simp [takel, h]
theorem takel_take_succ (size : Nat) (l : List UInt8) (j : Nat) (h : j < l.length / size) : (takel size l).take (j + 1) = (takel size l).take j ++ [le ((l.drop (j * size)).take size)] := by
  have h' : j < (takel size l).length := by rw [length_takel]; exact h
  rw [List.take_succ_eq_append_getElem h']
  have := getElem?_takel size l j h
  rw [List.getElem?_eq_getElem h'] at this
  injection this with this
  rw [this]
theorem takel_layl (size : Nat) (hs : 1 ≤ size) (L : List Nat) (hf : ∀ x ∈ L, fitB x size = true) : takel size (layl size L) = L := by
  have hdiv : (L.length * size) / size = L.length := Nat.mul_div_cancel _ (by omega)
  apply List.ext_getElem?
  intro j
  by_cases hj : j < L.length
  · rw [getElem?_takel _ _ _ (by rw [length_layl, hdiv]; exact hj), List.getElem?_eq_getElem hj]
    congr 1
    have e : layl size L = layl size (L.take j) ++ (digs L[j] size ++ layl size (L.drop (j + 1))) := by
      have h1 := layl_append size (L.take (j + 1)) (L.drop (j + 1))
      rw [List.take_append_drop] at h1
      rw [h1, layl_take_succ size L j hj, List.append_assoc]
    have hl : (layl size (L.take j)).length = j * size := by simp [length_layl, Nat.min_eq_left (Nat.le_of_lt hj)]
    have h2 : (layl size L).drop (j * size) = digs L[j] size ++ layl size (L.drop (j + 1)) := by rw [e, ← hl]; exact List.drop_left
    have h3 : ((layl size L).drop (j * size)).take size = digs L[j] size := by
      rw [h2]
      have := List.take_left (l₁ := digs L[j] size) (l₂ := layl size (L.drop (j + 1)))
      rwa [length_digs] at this
    rw [h3]
    have := hf L[j] (List.getElem_mem hj)
    simp only [fitB, decide_eq_true_eq] at this
    exact le_digs_of_lt _ _ this
  · rw [List.getElem?_eq_none (by rw [length_takel, length_layl, hdiv]; omega), List.getElem?_eq_none (by omega)]

def layB (size : Nat) (L : List Nat) : Bool := decide (L.length * size ≤ 4096) && L.all (fitB · size)

end Go.Proofs.Ytnahccdjeilboaa
