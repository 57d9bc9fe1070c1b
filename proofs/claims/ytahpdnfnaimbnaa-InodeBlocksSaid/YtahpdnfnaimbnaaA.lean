/-
  Inodes on paper: which are valid, their bytes, the inode of bytes, the pointers of a block, and the cells in which an inode lies.
-/
import Derived.Test.YtahpdnfnaimbnaaW2
import Derived.Test.YtahpdnfnaimbnaaW3
import Derived.Laws.StructEq
import Derived.Lib.Hide
namespace Go.Proofs.Ytahpdnfnaimbnaa.Inode
open Go.RowKit

def intsV (l : List Int) : List Value := l.map (Value.int .i64)
theorem length_intsV (l : List Int) : (intsV l).length = l.length := by simp [intsV]
theorem intsV_append (l m : List Int) : intsV (l ++ m) = intsV l ++ intsV m := by simp [intsV]
theorem intsV_take (l : List Int) (k : Nat) : intsV (l.take k) = (intsV l).take k := by simp [intsV, List.map_take]
theorem intsV_drop (l : List Int) (k : Nat) : intsV (l.drop k) = (intsV l).drop k := by simp [intsV, List.map_drop]
theorem intsV_set (l : List Int) (j : Nat) (x : Int) : (intsV l).set j (.int .i64 x) = intsV (l.set j x) := by simp [intsV, List.map_set]
theorem intsV_one (l : List Int) : ∀ u ∈ intsV l, u.oneCell' = true := by
  intro u hu
  simp only [intsV, List.mem_map] at hu
  obtain ⟨b, _, rfl⟩ := hu
  rfl
theorem rd_ints {w : World} {B : Nat} {A : Option Addr} {l : List Int} (h : Rd w B A (intsV l)) : l = [] ∨ ∃ b o, A = some ⟨b, o, none⟩ ∧ b < B ∧ ∀ (j : Nat) (x : Int), l[j]? = some x → w.cell? ⟨b, o + j, none⟩ = some (.int .i64 x) := by
  rcases h with h | ⟨b, o, h1, h2, h3⟩
  · exact .inl (by simpa [intsV] using h)
  · exact .inr ⟨b, o, h1, h2, fun j x hx => h3 j _ (by simp [intsV, hx])⟩
theorem below_drewN {B : Nat} {w wr : World} (h : Below B w wr) (m : Nat) : Below B w (wr.drewN m) := ⟨h.os, h.tape, h.output, h.size, h.block⟩
theorem below_drew {B : Nat} {a w : World} (h : Below B a w) : Below B a w.drew := ⟨h.os, h.tape, h.output, h.size, h.block⟩
theorem alloc_below (w : World) (b : Obj) : Below w.heap.size w (w.alloc b) := (Below.refl _ w).alloc (Nat.le_refl _) _

/-- Whether a number is from 0 to the most. -/
def upB (m x : Int) : Bool := decide (0 ≤ x) && decide (x ≤ m)
theorem upB_iff {m x : Int} : upB m x = true ↔ 0 ≤ x ∧ x ≤ m := by simp [upB]
/-- Whether a number is a pointer. -/
def ptrB (x : Int) : Bool := upB 512 x

/-- An inode: its kind, its label's row, its names, its bytes, its ten pointers. -/
structure Ino where
  k : Nat
  r : Nat
  l : Int
  s : Int
  p : List Int
theorem Ino.ext' {a b : Ino} (h1 : a.k = b.k) (h2 : a.r = b.r) (h3 : a.l = b.l) (h4 : a.s = b.s) (h5 : a.p = b.p) : a = b := by
  cases a; cases b; simp_all
def Ino.z : Ino := ⟨0, 0, 0, 0, [0, 0, 0, 0, 0, 0, 0, 0, 0, 0]⟩
def cellsI (n : Ino) : List Value := .int .u8 (n.k : Int) :: .int .u8 (n.r : Int) :: .int .i64 n.l :: .int .i64 n.s :: intsV n.p
def inoV (n : Ino) : Value := .agg (cellsI n).toArray
/-- What holds of each inode that can be in memory. -/
structure Oki (n : Ino) : Prop where
  len : n.p.length = 10
  k : n.k < 256
  r : n.r < 256
theorem Oki.z : Oki .z := ⟨rfl, by decide, by decide⟩
theorem length_cellsI {n : Ino} (h : Oki n) : (cellsI n).length = 14 := by simp [cellsI, length_intsV, h.len]

/-- What is asked of an inode that is not free. -/
structure Used (n : Ino) : Prop where
  kind : n.k = 1 ∨ n.k = 2
  row : n.r < 16
  l0 : 0 ≤ n.l
  l1 : n.l ≤ 65535
  s0 : 0 ≤ n.s
  s1 : n.s ≤ 3840
  ptr : n.p.all ptrB = true
def Right (n : Ino) : Prop := n = .z ∨ Used n
noncomputable def decB (p : Prop) : Bool := @decide p (Classical.propDecidable p)
theorem decB_yes {p : Prop} (h : p) : decB p = true := by unfold decB; exact (@decide_eq_true_iff p (Classical.propDecidable p)).2 h
theorem decB_no {p : Prop} (h : ¬ p) : decB p = false := by unfold decB; exact (@decide_eq_false_iff_not p (Classical.propDecidable p)).2 h
noncomputable def rightB (n : Ino) : Bool := decB (Right n)
theorem rightB_yes {n : Ino} (h : Right n) : rightB n = true := decB_yes h
theorem rightB_no {n : Ino} (h : ¬ Right n) : rightB n = false := decB_no h

/-- The numbers of an inode that have two bytes each. -/
def words (n : Ino) : List Nat := n.l.toNat :: n.s.toNat :: n.p.map Int.toNat
theorem words_small {n : Ino} (h : Right n) : ∀ x ∈ words n, x < 65536 := by
  intro x hx
  rcases h with rfl | h
  · simp [words, Ino.z] at hx
    omega
  · have h1 := h.l1
    have h2 := h.s1
    simp only [words, List.mem_cons, List.mem_map] at hx
    rcases hx with hx | hx | ⟨y, hy, hx⟩
    · omega
    · omega
    · have := List.all_eq_true.1 h.ptr y hy
      have := (upB_iff.1 this).2
      omega
/-- A valid inode's bytes. -/
def headI (n : Ino) : List UInt8 := UInt8.ofNat n.k :: UInt8.ofNat n.r :: layl 2 (words n)
def bytesI (n : Ino) : List UInt8 := padl (headI n) 32
theorem length_headI {n : Ino} (h : Oki n) : (headI n).length = 26 := by simp [headI, length_layl, words, h.len]
theorem length_bytesI {n : Ino} (h : Oki n) : (bytesI n).length = 32 := length_padl _ _ (by rw [length_headI h]; omega)
noncomputable def layI (n : Ino) : List UInt8 × Nat := if rightB n then (bytesI n, 0) else ([], 1)
theorem layI_yes {n : Ino} (h : Right n) : layI n = (bytesI n, 0) := by unfold layI; rw [rightB_yes h]; rfl
theorem layI_no {n : Ino} (h : ¬ Right n) : layI n = ([], 1) := by unfold layI; rw [rightB_no h]; rfl

/-- The number that stands in the two bytes from a place on. -/
def numL (l : List UInt8) (k : Nat) : Nat := le ((l.drop k).take 2)
theorem numL_lt (l : List UInt8) (k : Nat) : numL l k < 65536 := by
  have h := le_lt ((l.drop k).take 2)
  have h2 : ((l.drop k).take 2).length ≤ 2 := by simp; omega
  have h3 : 256 ^ ((l.drop k).take 2).length ≤ 256 ^ 2 := Nat.pow_le_pow_right (by omega) h2
  unfold numL
  omega
theorem takel_small (l : List UInt8) : ∀ x ∈ takel 2 l, x < 65536 := by
  intro x hx
  simp only [takel, List.mem_map, List.mem_range] at hx
  obtain ⟨k, _, rfl⟩ := hx
  exact numL_lt l (k * 2)
/-- The inode that bytes stand for. -/
def unI (b : List UInt8) : Ino := ⟨(b.getD 0 0).toNat, (b.getD 1 0).toNat, (numL b 2 : Nat), (numL b 4 : Nat),
  [(numL b 6 : Nat), (numL b 8 : Nat), (numL b 10 : Nat), (numL b 12 : Nat), (numL b 14 : Nat), (numL b 16 : Nat), (numL b 18 : Nat), (numL b 20 : Nat), (numL b 22 : Nat), (numL b 24 : Nat)]⟩
theorem oki_unI (b : List UInt8) : Oki (unI b) := ⟨rfl, UInt8.toNat_lt _, UInt8.toNat_lt _⟩
/-- The fifteen numbers behind the first two bytes. -/
theorem takel15 (b : List UInt8) (h : b.length = 32) : takel 2 (b.drop 2) = [numL b 2, numL b 4, numL b 6, numL b 8, numL b 10, numL b 12, numL b 14, numL b 16, numL b 18, numL b 20, numL b 22, numL b 24, numL b 26, numL b 28, numL b 30] := by
  have hl : (b.drop 2).length = 30 := by simp [h]
  unfold takel
  rw [hl]
  simp [numL, List.drop_drop, List.range_succ]
noncomputable def takI (b : List UInt8) : Ino × Nat :=
  if b.length = 32 then if rightB (unI b) then if bytesI (unI b) = b then (unI b, 0) else (.z, 110) else (.z, 110) else (.z, 110)
theorem takI_len {b : List UInt8} (h : b.length ≠ 32) : takI b = (.z, 110) := by unfold takI; rw [if_neg h]
theorem takI_bad {b : List UInt8} (h : ¬ Right (unI b)) : takI b = (.z, 110) := by unfold takI; rw [rightB_no h]; split <;> rfl
theorem takI_not {b : List UInt8} (h : bytesI (unI b) ≠ b) : takI b = (.z, 110) := by unfold takI; rw [if_neg h, ite_self, ite_self]
theorem takI_yes {b : List UInt8} (h : b.length = 32) (hR : Right (unI b)) (hb : bytesI (unI b) = b) : takI b = (unI b, 0) := by unfold takI; rw [if_pos h, rightB_yes hR, if_pos hb]; rfl

/-- The pointers of a block, and a block of pointers. -/
def ptrs (b : List UInt8) : List Int := (takel 2 b).map fun (n : Nat) => (n : Int)
theorem length_ptrs (b : List UInt8) : (ptrs b).length = b.length / 2 := by simp [ptrs, length_takel]
def poiP (b : List UInt8) : List Int × Nat := if b.length = 64 ∧ (ptrs b).all ptrB = true then (ptrs b, 0) else ([], 1)
def bloP (l : List Int) : List UInt8 × Nat := if l.length = 32 ∧ l.all ptrB = true then (layl 2 (l.map Int.toNat), 0) else ([], 1)

theorem takel_cons (l : List UInt8) (m : Nat) (h : l.length = (m + 1) * 2) : takel 2 l = le (l.take 2) :: takel 2 (l.drop 2) := by
  have e1 : l.length / 2 = m + 1 := by omega
  have e2 : (l.drop 2).length / 2 = m := by rw [List.length_drop]; omega
  unfold takel
  rw [e1, e2, List.range_succ_eq_map, List.map_cons, List.map_map]
  congr 1
  apply List.map_congr_left
  intro k _
  show le ((l.drop ((k + 1) * 2)).take 2) = _
  rw [List.drop_drop]
  congr 3
  omega
theorem layl_takel (m : Nat) : ∀ l : List UInt8, l.length = m * 2 → layl 2 (takel 2 l) = l := by
  induction m with
  | zero =>
    intro l h
    obtain rfl : l = [] := List.eq_nil_of_length_eq_zero (by omega)
    rfl
  | succ m ih =>
    intro l h
    rw [takel_cons l m h]
    show digs (le (l.take 2)) 2 ++ layl 2 (takel 2 (l.drop 2)) = l
    have h2 : (l.take 2).length = 2 := by rw [List.length_take]; omega
    have := digs_le (l.take 2)
    rw [h2] at this
    rw [this, ih _ (by rw [List.length_drop]; omega), List.take_append_drop]
theorem ptr_nat {l : List Int} (h : l.all ptrB = true) : (l.map Int.toNat).map (fun (n : Nat) => (n : Int)) = l := by
  rw [List.map_map]
  have : ∀ x ∈ l, ((fun (n : Nat) => (n : Int)) ∘ Int.toNat) x = id x := fun x hx => by
    have := (upB_iff.1 (List.all_eq_true.1 h x hx)).1
    show ((x.toNat : Nat) : Int) = x
    omega
  rw [List.map_congr_left this, List.map_id]
theorem ptr_small {l : List Int} (h : l.all ptrB = true) : ∀ x ∈ l, 0 ≤ x ∧ x < 65536 := fun x hx => by
  have := upB_iff.1 (List.all_eq_true.1 h x hx)
  omega
theorem nat_small {l : List Int} (h : ∀ x ∈ l, 0 ≤ x ∧ x < 65536) : ∀ x ∈ l.map Int.toNat, x < 65536 := fun x hx => by
  simp only [List.mem_map] at hx
  obtain ⟨y, hy, rfl⟩ := hx
  have := h y hy
  omega
theorem fit2 {L : List Nat} (h : ∀ x ∈ L, x < 65536) : ∀ x ∈ L, fitB x 2 = true := fun x hx => by
  have := h x hx
  simp only [fitB, decide_eq_true_eq]
  omega
/-- A block of pointers is taken as it was laid. -/
theorem poi_blo {l : List Int} (hl : l.length = 32) (hp : l.all ptrB = true) : poiP (layl 2 (l.map Int.toNat)) = (l, 0) := by
  have e : ptrs (layl 2 (l.map Int.toNat)) = l := by
    unfold ptrs
    rw [takel_layl 2 (by omega) _ (fit2 (nat_small (ptr_small hp))), ptr_nat hp]
  unfold poiP
  rw [e, if_pos ⟨by rw [length_layl, List.length_map, hl], hp⟩]
/-- And laid as it was taken. -/
theorem blo_poi {b : List UInt8} (hl : b.length = 64) (hp : (ptrs b).all ptrB = true) : bloP (ptrs b) = (b, 0) := by
  have e : (ptrs b).map Int.toNat = takel 2 b := by
    unfold ptrs
    rw [List.map_map]
    have : ∀ x ∈ takel 2 b, (Int.toNat ∘ fun (n : Nat) => (n : Int)) x = id x := fun x _ => Int.toNat_natCast x
    rw [List.map_congr_left this, List.map_id]
  unfold bloP
  rw [if_pos ⟨by rw [length_ptrs, hl], hp⟩, e, layl_takel 32 b (by omega)]

theorem two_at (k r : UInt8) (L : List Nat) (T : List UInt8) (hL : ∀ x ∈ L, x < 65536) (i x : Nat) (h : L[i]? = some x) : numL (k :: r :: (layl 2 L ++ T)) (2 + i * 2) = x := by
  obtain ⟨hi, rfl⟩ := List.getElem?_eq_some_iff.1 h
  have h1 : i < (layl 2 L).length / 2 := by rw [length_layl]; omega
  have h2 := getElem?_takel 2 (layl 2 L) i h1
  rw [takel_layl 2 (by omega) _ (fit2 hL), List.getElem?_eq_getElem hi] at h2
  have h3 : le (((layl 2 L).drop (i * 2)).take 2) = L[i] := by simpa using h2.symm
  unfold numL
  have e : (k :: r :: (layl 2 L ++ T)).drop (2 + i * 2) = (layl 2 L ++ T).drop (i * 2) := by rw [Nat.add_comm]; rfl
  rw [e, List.drop_append_of_le_length (by rw [length_layl]; omega), List.take_append_of_le_length (by rw [List.length_drop, length_layl]; omega), h3]
theorem ten_of {α : Type} {l : List α} (h : l.length = 10) : ∃ a b c d e f g i j k, l = [a, b, c, d, e, f, g, i, j, k] := by
  match l, h with
  | [a, b, c, d, e, f, g, i, j, k], _ => exact ⟨a, b, c, d, e, f, g, i, j, k, rfl⟩
theorem right_nat {n : Ino} (h : Right n) : 0 ≤ n.l ∧ 0 ≤ n.s ∧ ∀ x ∈ n.p, 0 ≤ x := by
  rcases h with rfl | h
  · simp [Ino.z]
  · exact ⟨h.l0, h.s0, fun x hx => (upB_iff.1 (List.all_eq_true.1 h.ptr x hx)).1⟩
/-- What was laid is taken. -/
theorem un_bytes {n : Ino} (h : Right n) (ho : Oki n) : unI (bytesI n) = n := by
  have hs := words_small h
  obtain ⟨h0, h1, h2⟩ := right_nat h
  have hk := ho.k
  have hr := ho.r
  have hb : bytesI n = UInt8.ofNat n.k :: UInt8.ofNat n.r :: (layl 2 (words n) ++ List.replicate (32 - (headI n).length) 0) := by
    simp [bytesI, padl, headI]
  have at_ := two_at (UInt8.ofNat n.k) (UInt8.ofNat n.r) (words n) (List.replicate (32 - (headI n).length) 0) hs
  rw [← hb] at at_
  obtain ⟨p0, p1, p2, p3, p4, p5, p6, p7, p8, p9, hp⟩ := ten_of ho.len
  rw [hp] at h2
  simp only [List.mem_cons, List.not_mem_nil, or_false, forall_eq_or_imp, forall_eq] at h2
  have e0 : (bytesI n).getD 0 0 = UInt8.ofNat n.k := by rw [hb]; rfl
  have e1 : (bytesI n).getD 1 0 = UInt8.ofNat n.r := by rw [hb]; rfl
  have w0 := at_ 0 _ (by unfold words; rfl)
  have w1 := at_ 1 _ (by unfold words; rfl)
  have q := fun i x (h : (words n)[i + 2]? = some x) => at_ (i + 2) x h
  unfold words at q
  rw [hp] at q
  simp only [List.map_cons, List.map_nil, List.getElem?_cons_succ] at q
  have q0 := q 0 _ rfl
  have q1 := q 1 _ rfl
  have q2 := q 2 _ rfl
  have q3 := q 3 _ rfl
  have q4 := q 4 _ rfl
  have q5 := q 5 _ rfl
  have q6 := q 6 _ rfl
  have q7 := q 7 _ rfl
  have q8 := q 8 _ rfl
  have q9 := q 9 _ rfl
  simp only [Nat.reduceAdd, Nat.reduceMul] at w0 w1 q0 q1 q2 q3 q4 q5 q6 q7 q8 q9
  refine Ino.ext' ?_ ?_ ?_ ?_ ?_
  · show ((bytesI n).getD 0 0).toNat = n.k
    rw [e0]; simp; omega
  · show ((bytesI n).getD 1 0).toNat = n.r
    rw [e1]; simp; omega
  · show ((numL (bytesI n) 2 : Nat) : Int) = n.l
    rw [w0]; exact Int.toNat_of_nonneg h0
  · show ((numL (bytesI n) 4 : Nat) : Int) = n.s
    rw [w1]; exact Int.toNat_of_nonneg h1
  · rw [hp]
    unfold unI
    simp only [q0, q1, q2, q3, q4, q5, q6, q7, q8, q9, List.cons.injEq, and_true]
    obtain ⟨z0, z1, z2, z3, z4, z5, z6, z7, z8, z9⟩ := h2
    exact ⟨Int.toNat_of_nonneg z0, Int.toNat_of_nonneg z1, Int.toNat_of_nonneg z2, Int.toNat_of_nonneg z3, Int.toNat_of_nonneg z4, Int.toNat_of_nonneg z5, Int.toNat_of_nonneg z6, Int.toNat_of_nonneg z7, Int.toNat_of_nonneg z8, Int.toNat_of_nonneg z9⟩
theorem tak_lay {n : Ino} (h : Right n) (ho : Oki n) : takI (bytesI n) = (n, 0) := by
  have e := un_bytes h ho
  have := takI_yes (b := bytesI n) (length_bytesI ho) (by rw [e]; exact h) (by rw [e])
  rw [this, e]
end Go.Proofs.Ytahpdnfnaimbnaa.Inode
