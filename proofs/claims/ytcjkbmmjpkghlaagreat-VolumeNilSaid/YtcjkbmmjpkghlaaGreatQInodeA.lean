/-
  Inodes on paper: which are valid, their bytes, the inode of bytes, the pointers of a block, and the cells in which an inode lies.
-/
import Derived.Test.YtcjkbmmjpkghlaaGreatQF
import Derived.Laws.StructEq
import Derived.Lib.Hide
import Derived.Deep.QuietTactic
import Derived.ChangeKeysEq
import Derived.Deep.RegionWith
import Derived.Deep.RegionHeld3
import Derived.Laws.CopyOwn
namespace Go.Proofs.YtcjkbmmjpkghlaaGreat.Inode
open Go.RowKit

def intsV (l : List Int) : List Value := l.map (Value.int .i64)
theorem length_intsV (l : List Int) : (intsV l).length = l.length := by simp [intsV]
theorem intsV_append (l m : List Int) : intsV (l ++ m) = intsV l ++ intsV m := by simp [intsV]
theorem intsV_take (l : List Int) (k : Nat) : intsV (l.take k) = (intsV l).take k := by simp [intsV, List.map_take]
theorem intsV_drop (l : List Int) (k : Nat) : intsV (l.drop k) = (intsV l).drop k := by simp [intsV, List.map_drop]
theorem intsV_set (l : List Int) (j : Nat) (x : Int) : (intsV l).set j (.int .i64 x) = intsV (l.set j x) := by simp [intsV, List.map_set]
theorem intsV_one (l : List Int) : ∀ u ∈ intsV l, u.oneCell' = true := by
  intro u hu
  simp only [intsV, List.mem_map] at hu
  obtain ⟨b, _, rfl⟩ := hu
  rfl
theorem rd_ints {w : World} {B : Nat} {A : Option Addr} {l : List Int} (h : Rd w B A (intsV l)) : l = [] ∨ ∃ b o, A = some ⟨b, o, none⟩ ∧ b < B ∧ ∀ (j : Nat) (x : Int), l[j]? = some x → w.cell? ⟨b, o + j, none⟩ = some (.int .i64 x) := by
  rcases h with h | ⟨b, o, h1, h2, h3⟩
  · exact .inl (by simpa [intsV] using h)
  · exact .inr ⟨b, o, h1, h2, fun j x hx => h3 j _ (by simp [intsV, hx])⟩
theorem below_drewN {B : Nat} {w wr : World} (h : Below B w wr) (m : Nat) : Below B w (wr.drewN m) := ⟨h.os, h.tape, h.output, h.size, h.block⟩
theorem below_drew {B : Nat} {a w : World} (h : Below B a w) : Below B a w.drew := ⟨h.os, h.tape, h.output, h.size, h.block⟩
theorem alloc_below (w : World) (b : Obj) : Below w.heap.size w (w.alloc b) := (Below.refl _ w).alloc (Nat.le_refl _) _

/-- Whether a number is from 0 to the most. -/
def upB (m x : Int) : Bool := decide (0 ≤ x) && decide (x ≤ m)
theorem upB_iff {m x : Int} : upB m x = true ↔ 0 ≤ x ∧ x ≤ m := by simp [upB]
/-- Whether a number is a pointer. -/
def ptrB (x : Int) : Bool := upB 512 x

/-- An inode: its kind, its label's row, its names, its bytes, its ten pointers. -/
structure Ino where
  k : Nat
  r : Nat
  l : Int
  s : Int
  p : List Int
theorem Ino.ext' {a b : Ino} (h1 : a.k = b.k) (h2 : a.r = b.r) (h3 : a.l = b.l) (h4 : a.s = b.s) (h5 : a.p = b.p) : a = b := by
  cases a; cases b; simp_all
def Ino.z : Ino := ⟨0, 0, 0, 0, [0, 0, 0, 0, 0, 0, 0, 0, 0, 0]⟩
def cellsI (n : Ino) : List Value := .int .u8 (n.k : Int) :: .int .u8 (n.r : Int) :: .int .i64 n.l :: .int .i64 n.s :: intsV n.p
def inoV (n : Ino) : Value := .agg (cellsI n).toArray
/-- What holds of each inode that can be in memory. -/
structure Oki (n : Ino) : Prop where
  len : n.p.length = 10
  k : n.k < 256
  r : n.r < 256
theorem Oki.z : Oki .z := ⟨rfl, by decide, by decide⟩
theorem length_cellsI {n : Ino} (h : Oki n) : (cellsI n).length = 14 := by simp [cellsI, length_intsV, h.len]

/-- What is asked of an inode that is not free. -/
structure Used (n : Ino) : Prop where
  kind : n.k = 1 ∨ n.k = 2
  row : n.r < 16
  l0 : 0 ≤ n.l
  l1 : n.l ≤ 65535
  s0 : 0 ≤ n.s
  s1 : n.s ≤ 3840
  ptr : n.p.all ptrB = true
def Right (n : Ino) : Prop := n = .z ∨ Used n
noncomputable def decB (p : Prop) : Bool := @decide p (Classical.propDecidable p)
theorem decB_yes {p : Prop} (h : p) : decB p = true := by unfold decB; exact (@decide_eq_true_iff p (Classical.propDecidable p)).2 h
theorem decB_no {p : Prop} (h : ¬ p) : decB p = false := by unfold decB; exact (@decide_eq_false_iff_not p (Classical.propDecidable p)).2 h
noncomputable def rightB (n : Ino) : Bool := decB (Right n)
theorem rightB_yes {n : Ino} (h : Right n) : rightB n = true := decB_yes h
theorem rightB_no {n : Ino} (h : ¬ Right n) : rightB n = false := decB_no h

/-- The numbers of an inode that have two bytes each. -/
def words (n : Ino) : List Nat := n.l.toNat :: n.s.toNat :: n.p.map Int.toNat
theorem words_small {n : Ino} (h : Right n) : ∀ x ∈ words n, x < 65536 := by
  intro x hx
  rcases h with rfl | h
  · simp [words, Ino.z] at hx
    omega
  · have h1 := h.l1
    have h2 := h.s1
    simp only [words, List.mem_cons, List.mem_map] at hx
    rcases hx with hx | hx | ⟨y, hy, hx⟩
    · omega
    · omega
    · have := List.all_eq_true.1 h.ptr y hy
      have := (upB_iff.1 this).2
      omega
/-- A valid inode's bytes. -/
def headI (n : Ino) : List UInt8 := UInt8.ofNat n.k :: UInt8.ofNat n.r :: layl 2 (words n)
def bytesI (n : Ino) : List UInt8 := padl (headI n) 32
theorem length_headI {n : Ino} (h : Oki n) : (headI n).length = 26 := by simp [headI, length_layl, words, h.len]
theorem length_bytesI {n : Ino} (h : Oki n) : (bytesI n).length = 32 := length_padl _ _ (by rw [length_headI h]; omega)
noncomputable def layI (n : Ino) : List UInt8 × Nat := if rightB n then (bytesI n, 0) else ([], 1)
theorem layI_yes {n : Ino} (h : Right n) : layI n = (bytesI n, 0) := by unfold layI; rw [rightB_yes h]; rfl
theorem layI_no {n : Ino} (h : ¬ Right n) : layI n = ([], 1) := by unfold layI; rw [rightB_no h]; rfl

/-- The number that stands in the two bytes from a place on. -/
def numL (l : List UInt8) (k : Nat) : Nat := le ((l.drop k).take 2)
theorem numL_lt (l : List UInt8) (k : Nat) : numL l k < 65536 := by
  have h := le_lt ((l.drop k).take 2)
  have h2 : ((l.drop k).take 2).length ≤ 2 := by simp; omega
  have h3 : 256 ^ ((l.drop k).take 2).length ≤ 256 ^ 2 := Nat.pow_le_pow_right (by omega) h2
  unfold numL
  omega
theorem takel_small (l : List UInt8) : ∀ x ∈ takel 2 l, x < 65536 := by
  intro x hx
  simp only [takel, List.mem_map, List.mem_range] at hx
  obtain ⟨k, _, rfl⟩ := hx
  exact numL_lt l (k * 2)
/-- The inode that bytes stand for. -/
def unI (b : List UInt8) : Ino := ⟨(b.getD 0 0).toNat, (b.getD 1 0).toNat, (numL b 2 : Nat), (numL b 4 : Nat),
  [(numL b 6 : Nat), (numL b 8 : Nat), (numL b 10 : Nat), (numL b 12 : Nat), (numL b 14 : Nat), (numL b 16 : Nat), (numL b 18 : Nat), (numL b 20 : Nat), (numL b 22 : Nat), (numL b 24 : Nat)]⟩
theorem oki_unI (b : List UInt8) : Oki (unI b) := ⟨rfl, UInt8.toNat_lt _, UInt8.toNat_lt _⟩
/-- The fifteen numbers behind the first two bytes. -/
theorem takel15 (b : List UInt8) (h : b.length = 32) : takel 2 (b.drop 2) = [numL b 2, numL b 4, numL b 6, numL b 8, numL b 10, numL b 12, numL b 14, numL b 16, numL b 18, numL b 20, numL b 22, numL b 24, numL b 26, numL b 28, numL b 30] := by
  have hl : (b.drop 2).length = 30 := by simp [h]
  unfold takel
  rw [hl]
  simp [numL, List.drop_drop, List.range_succ]
noncomputable def takI (b : List UInt8) : Ino × Nat :=
  if b.length = 32 then if rightB (unI b) then if bytesI (unI b) = b then (unI b, 0) else (.z, 110) else (.z, 110) else (.z, 110)
theorem takI_len {b : List UInt8} (h : b.length ≠ 32) : takI b = (.z, 110) := by unfold takI; rw [if_neg h]
theorem takI_bad {b : List UInt8} (h : ¬ Right (unI b)) : takI b = (.z, 110) := by unfold takI; rw [rightB_no h]; split <;> rfl
theorem takI_not {b : List UInt8} (h : bytesI (unI b) ≠ b) : takI b = (.z, 110) := by unfold takI; rw [if_neg h, ite_self, ite_self]
theorem takI_yes {b : List UInt8} (h : b.length = 32) (hR : Right (unI b)) (hb : bytesI (unI b) = b) : takI b = (unI b, 0) := by unfold takI; rw [if_pos h, rightB_yes hR, if_pos hb]; rfl

/-- The pointers of a block, and a block of pointers. -/
def ptrs (b : List UInt8) : List Int := (takel 2 b).map fun (n : Nat) => (n : Int)
theorem length_ptrs (b : List UInt8) : (ptrs b).length = b.length / 2 := by simp [ptrs, length_takel]
def poiP (b : List UInt8) : List Int × Nat := if b.length = 64 ∧ (ptrs b).all ptrB = true then (ptrs b, 0) else ([], 1)
def bloP (l : List Int) : List UInt8 × Nat := if l.length = 32 ∧ l.all ptrB = true then (layl 2 (l.map Int.toNat), 0) else ([], 1)

theorem takel_cons (l : List UInt8) (m : Nat) (h : l.length = (m + 1) * 2) : takel 2 l = le (l.take 2) :: takel 2 (l.drop 2) := by
  have e1 : l.length / 2 = m + 1 := by omega
  have e2 : (l.drop 2).length / 2 = m := by rw [List.length_drop]; omega
  unfold takel
  rw [e1, e2, List.range_succ_eq_map, List.map_cons, List.map_map]
  congr 1
  apply List.map_congr_left
  intro k _
  show le ((l.drop ((k + 1) * 2)).take 2) = _
  rw [List.drop_drop]
  congr 3
  omega
theorem layl_takel (m : Nat) : ∀ l : List UInt8, l.length = m * 2 → layl 2 (takel 2 l) = l := by
  induction m with
  | zero =>
    intro l h
    obtain rfl : l = [] := List.eq_nil_of_length_eq_zero (by omega)
    rfl
  | succ m ih =>
    intro l h
    rw [takel_cons l m h]
    show digs (le (l.take 2)) 2 ++ layl 2 (takel 2 (l.drop 2)) = l
    have h2 : (l.take 2).length = 2 := by rw [List.length_take]; omega
    have := digs_le (l.take 2)
    rw [h2] at this
    rw [this, ih _ (by rw [List.length_drop]; omega), List.take_append_drop]
theorem ptr_nat {l : List Int} (h : l.all ptrB = true) : (l.map Int.toNat).map (fun (n : Nat) => (n : Int)) = l := by
  rw [List.map_map]
  have : ∀ x ∈ l, ((fun (n : Nat) => (n : Int)) ∘ Int.toNat) x = id x := fun x hx => by
    have := (upB_iff.1 (List.all_eq_true.1 h x hx)).1
    show ((x.toNat : Nat) : Int) = x
    omega
  rw [List.map_congr_left this, List.map_id]
theorem ptr_small {l : List Int} (h : l.all ptrB = true) : ∀ x ∈ l, 0 ≤ x ∧ x < 65536 := fun x hx => by
  have := upB_iff.1 (List.all_eq_true.1 h x hx)
  omega
theorem nat_small {l : List Int} (h : ∀ x ∈ l, 0 ≤ x ∧ x < 65536) : ∀ x ∈ l.map Int.toNat, x < 65536 := fun x hx => by
  simp only [List.mem_map] at hx
  obtain ⟨y, hy, rfl⟩ := hx
  have := h y hy
  omega
theorem fit2 {L : List Nat} (h : ∀ x ∈ L, x < 65536) : ∀ x ∈ L, fitB x 2 = true := fun x hx => by
  have := h x hx
  simp only [fitB, decide_eq_true_eq]
  omega
/-- A block of pointers is taken as it was laid. -/
theorem poi_blo {l : List Int} (hl : l.length = 32) (hp : l.all ptrB = true) : poiP (layl 2 (l.map Int.toNat)) = (l, 0) := by
  have e : ptrs (layl 2 (l.map Int.toNat)) = l := by
    unfold ptrs
    rw [takel_layl 2 (by omega) _ (fit2 (nat_small (ptr_small hp))), ptr_nat hp]
  unfold poiP
  rw [e, if_pos ⟨by rw [length_layl, List.length_map, hl], hp⟩]
/-- And laid as it was taken. -/
theorem blo_poi {b : List UInt8} (hl : b.length = 64) (hp : (ptrs b).all ptrB = true) : bloP (ptrs b) = (b, 0) := by
  have e : (ptrs b).map Int.toNat = takel 2 b := by
    unfold ptrs
    rw [List.map_map]
    have : ∀ x ∈ takel 2 b, (Int.toNat ∘ fun (n : Nat) => (n : Int)) x = id x := fun x _ => Int.toNat_natCast x
    rw [List.map_congr_left this, List.map_id]
  unfold bloP
  rw [if_pos ⟨by rw [length_ptrs, hl], hp⟩, e, layl_takel 32 b (by omega)]

theorem two_at (k r : UInt8) (L : List Nat) (T : List UInt8) (hL : ∀ x ∈ L, x < 65536) (i x : Nat) (h : L[i]? = some x) : numL (k :: r :: (layl 2 L ++ T)) (2 + i * 2) = x := by
  obtain ⟨hi, rfl⟩ := List.getElem?_eq_some_iff.1 h
  have h1 : i < (layl 2 L).length / 2 := by rw [length_layl]; omega
  have h2 := getElem?_takel 2 (layl 2 L) i h1
  rw [takel_layl 2 (by omega) _ (fit2 hL), List.getElem?_eq_getElem hi] at h2
  have h3 : le (((layl 2 L).drop (i * 2)).take 2) = L[i] := by simpa using h2.symm
  unfold numL
  have e : (k :: r :: (layl 2 L ++ T)).drop (2 + i * 2) = (layl 2 L ++ T).drop (i * 2) := by rw [Nat.add_comm]; rfl
  rw [e, List.drop_append_of_le_length (by rw [length_layl]; omega), List.take_append_of_le_length (by rw [List.length_drop, length_layl]; omega), h3]
theorem ten_of {α : Type} {l : List α} (h : l.length = 10) : ∃ a b c d e f g i j k, l = [a, b, c, d, e, f, g, i, j, k] := by
  match l, h with
  | [a, b, c, d, e, f, g, i, j, k], _ => exact ⟨a, b, c, d, e, f, g, i, j, k, rfl⟩
theorem right_nat {n : Ino} (h : Right n) : 0 ≤ n.l ∧ 0 ≤ n.s ∧ ∀ x ∈ n.p, 0 ≤ x := by
  rcases h with rfl | h
  · simp [Ino.z]
  · exact ⟨h.l0, h.s0, fun x hx => (upB_iff.1 (List.all_eq_true.1 h.ptr x hx)).1⟩
/-- What was laid is taken. -/
theorem un_bytes {n : Ino} (h : Right n) (ho : Oki n) : unI (bytesI n) = n := by
  have hs := words_small h
  obtain ⟨h0, h1, h2⟩ := right_nat h
  have hk := ho.k
  have hr := ho.r
  have hb : bytesI n = UInt8.ofNat n.k :: UInt8.ofNat n.r :: (layl 2 (words n) ++ List.replicate (32 - (headI n).length) 0) := by
    simp [bytesI, padl, headI]
  have at_ := two_at (UInt8.ofNat n.k) (UInt8.ofNat n.r) (words n) (List.replicate (32 - (headI n).length) 0) hs
  rw [← hb] at at_
  obtain ⟨p0, p1, p2, p3, p4, p5, p6, p7, p8, p9, hp⟩ := ten_of ho.len
  rw [hp] at h2
  simp only [List.mem_cons, List.not_mem_nil, or_false, forall_eq_or_imp, forall_eq] at h2
  have e0 : (bytesI n).getD 0 0 = UInt8.ofNat n.k := by rw [hb]; rfl
  have e1 : (bytesI n).getD 1 0 = UInt8.ofNat n.r := by rw [hb]; rfl
  have w0 := at_ 0 _ (by unfold words; rfl)
  have w1 := at_ 1 _ (by unfold words; rfl)
  have q := fun i x (h : (words n)[i + 2]? = some x) => at_ (i + 2) x h
  unfold words at q
  rw [hp] at q
  simp only [List.map_cons, List.map_nil, List.getElem?_cons_succ] at q
  have q0 := q 0 _ rfl
  have q1 := q 1 _ rfl
  have q2 := q 2 _ rfl
  have q3 := q 3 _ rfl
  have q4 := q 4 _ rfl
  have q5 := q 5 _ rfl
  have q6 := q 6 _ rfl
  have q7 := q 7 _ rfl
  have q8 := q 8 _ rfl
  have q9 := q 9 _ rfl
  simp only [Nat.reduceAdd, Nat.reduceMul] at w0 w1 q0 q1 q2 q3 q4 q5 q6 q7 q8 q9
  refine Ino.ext' ?_ ?_ ?_ ?_ ?_
  · show ((bytesI n).getD 0 0).toNat = n.k
    rw [e0]; simp; omega
  · show ((bytesI n).getD 1 0).toNat = n.r
    rw [e1]; simp; omega
  · show ((numL (bytesI n) 2 : Nat) : Int) = n.l
    rw [w0]; exact Int.toNat_of_nonneg h0
  · show ((numL (bytesI n) 4 : Nat) : Int) = n.s
    rw [w1]; exact Int.toNat_of_nonneg h1
  · rw [hp]
    unfold unI
    simp only [q0, q1, q2, q3, q4, q5, q6, q7, q8, q9, List.cons.injEq, and_true]
    obtain ⟨z0, z1, z2, z3, z4, z5, z6, z7, z8, z9⟩ := h2
    exact ⟨Int.toNat_of_nonneg z0, Int.toNat_of_nonneg z1, Int.toNat_of_nonneg z2, Int.toNat_of_nonneg z3, Int.toNat_of_nonneg z4, Int.toNat_of_nonneg z5, Int.toNat_of_nonneg z6, Int.toNat_of_nonneg z7, Int.toNat_of_nonneg z8, Int.toNat_of_nonneg z9⟩
theorem tak_lay {n : Ino} (h : Right n) (ho : Oki n) : takI (bytesI n) = (n, 0) := by
  have e := un_bytes h ho
  have := takI_yes (b := bytesI n) (length_bytesI ho) (by rw [e]; exact h) (by rw [e])
  rw [this, e]
end Go.Proofs.YtcjkbmmjpkghlaaGreat.Inode

/-
  Pointers told: package inode's isUpTo and arePointers, the document's pointer; two lists of ints compared.
-/
namespace Go.Proofs.YtcjkbmmjpkghlaaGreat.Inode
open Go.RowKit

theorem up_any (m x : Int) (w : World) : Calls Tryz.prog 151 #[.int .i64 m, .int .i64 x] w fun e w' => e = .returned (.bool (upB m x)) ∧ w = w' := by
  unfold upB
  by_cases h1 : 0 ≤ x
  · rw [decide_eq_true h1, Bool.true_and]
    go_enter Tryz.func151, Tryz.ntmps151
    go_wp2
    go_ret
    exact ⟨rfl, rfl⟩
  · rw [decide_eq_false h1, Bool.false_and]
    go_enter Tryz.func151, Tryz.ntmps151
    go_wp2
    go_ret
    exact ⟨rfl, rfl⟩
theorem ptr_any (x : Int) (w : World) : Calls Tryz.prog 184 #[.int .i64 x] w fun e w' => e = .returned (.bool (ptrB x)) ∧ w = w' := by
  unfold ptrB upB
  by_cases h1 : 0 ≤ x
  · rw [decide_eq_true h1, Bool.true_and]
    go_enter Tryz.func184, Tryz.ntmps184
    go_wp2
    go_ret
    exact ⟨rfl, rfl⟩
  · rw [decide_eq_false h1, Bool.false_and]
    go_enter Tryz.func184, Tryz.ntmps184
    go_wp2
    go_ret
    exact ⟨rfl, rfl⟩

theorem all_step {l : List Int} {k : Nat} {x : Int} (h : (l.take k).all ptrB = true) (hx : l[k]? = some x) (hp : ptrB x = true) : (l.take (k + 1)).all ptrB = true := by
  obtain ⟨hk, rfl⟩ := List.getElem?_eq_some_iff.1 hx
  rw [List.take_succ_eq_append_getElem hk, List.all_append, h]
  simp [hp]
theorem all_bad {l : List Int} {k : Nat} {x : Int} (hx : l[k]? = some x) (hp : ptrB x = false) : l.all ptrB = false := by
  rw [List.all_eq_false]
  exact ⟨x, List.mem_of_getElem? hx, by simp [hp]⟩

set_option maxHeartbeats 400000 in
theorem ptrs_any (l : List Int) (A : Option Addr) (n c B : Nat) (w : World) (hn : l.length = n) (hr : Rd w B A (intsV l)) (hm : n ≤ 9223372036854775807) :
    Calls Tryz.prog 152 #[.slice A n c] w fun e w' => e = .returned (.bool (l.all ptrB)) ∧ w = w' := by
  rcases rd_ints hr with h | ⟨b, o, rfl, _, hcc⟩
  · subst h
    obtain rfl : n = 0 := hn.symm
    clear hr hn
    go_enter Tryz.func152, Tryz.ntmps152
    go_wp2
    go_loop [7] (fun i => i = .int .i64 0) (fun _ => 0)
    case atStart => exact rfl
    case round =>
      obtain rfl := hrel
      go_wp2
      go_ret
      exact ⟨rfl, rfl⟩
  have Hn := Lib.hid hn
  have Hc := Lib.hid hcc
  clear hn hr hcc
  go_enter Tryz.func152, Tryz.ntmps152
  go_wp2
  go_loop [7] (fun i => ∃ k : Nat, k ≤ n ∧ i = .int .i64 (k : Int) ∧ Hid ((l.take k).all ptrB = true)) (fun i => n - (intOf i).toNat)
  case atStart => exact ⟨0, Nat.zero_le _, rfl, Lib.hid (by simp)⟩
  case round =>
    obtain ⟨k, hk, rfl, hall⟩ := hrel
    by_cases hlt : k < n
    · have h1 : k < l.length := by rw [Hn.out]; exact hlt
      obtain ⟨x, hx⟩ : ∃ x, l[k]? = some x := ⟨_, List.getElem?_eq_getElem h1⟩
      have c0 := Hc.out k x hx
      have Hx := Lib.hid hx
      clear hx h1
      cases hp : ptrB x
      · have Hp := Lib.hid (all_bad Hx.out hp)
        have Hq := Lib.hid (show upB 512 x = false from hp)
        clear hp
        go_wp2_with (go_at_call 151; (with_reducible refine (up_any 512 x _).mono ?_); rintro e w' ⟨he, hw'⟩; obtain rfl := he; obtain rfl := hw'; rw [Hq.out])
        go_ret
        exact ⟨by rw [Hp.out]; rfl, rfl⟩
      · have Hp := Lib.hid (all_step hall.out Hx.out hp)
        have Hq := Lib.hid (show upB 512 x = true from hp)
        clear hp
        go_wp2_with (go_at_call 151; (with_reducible refine (up_any 512 x _).mono ?_); rintro e w' ⟨he, hw'⟩; obtain rfl := he; obtain rfl := hw'; rw [Hq.out])
        go_round
        case rel => exact ⟨k + 1, by omega, by go_num, Hp⟩
        case measure => simp [intOf]; omega
    · obtain rfl : k = n := by omega
      have e : l.all ptrB = true := by
        have := hall.out
        rwa [List.take_of_length_le (by rw [Hn.out]; exact Nat.le_refl _)] at this
      have E := Lib.hid e
      clear e
      go_wp2
      go_ret
      exact ⟨by rw [E.out]; rfl, rfl⟩

end Go.Proofs.YtcjkbmmjpkghlaaGreat.Inode

/-
  Two inodes compared, cell by cell.
-/
namespace Go.Proofs.YtcjkbmmjpkghlaaGreat.Inode
open Go.RowKit

section
variable (W : World)
theorem fields_step {d : Nat} {xs ys : Array Value} {f : Field} {fs : List Field} {a b : Value} {r t : Bool} (hn : f.name ≠ "_") (ha : (part f.type xs f.offset).run Tryz.prog W = .ok a W) (hb : (part f.type ys f.offset).run Tryz.prog W = .ok b W)
    (he : (Op.equalIn d f.type a b).run Tryz.prog W = .ok r W) (hr : (Op.eqFields d xs ys fs).run Tryz.prog W = .ok t W) : (Op.eqFields d xs ys (f :: fs)).run Tryz.prog W = .ok (r && t) W := by
  simp only [Op.eqFields, hn, ne_eq, not_false_eq_true, if_true]
  cases r <;> simp [ha, hb, he, hr]
theorem items_step {d c i : Nat} {e : TypeId} {xs ys : Array Value} {is : List Nat} {a b : Value} {r t : Bool} (ha : (part e xs (i * c)).run Tryz.prog W = .ok a W) (hb : (part e ys (i * c)).run Tryz.prog W = .ok b W)
    (he : (Op.equalIn d e a b).run Tryz.prog W = .ok r W) (hr : (Op.eqItems d e c xs ys is).run Tryz.prog W = .ok t W) : (Op.eqItems d e c xs ys (i :: is)).run Tryz.prog W = .ok (r && t) W := by
  simp only [Op.eqItems]
  cases r <;> simp [ha, hb, he, hr]
theorem part_u8 (xs : Array Value) (k : Nat) (x : Int) (h : xs[k]? = some (.int .u8 x)) : (part 5 xs k).run Tryz.prog W = .ok (.int .u8 x) W := by
  unfold part
  simp [h, go_sem]
theorem part_i64 (xs : Array Value) (k : Nat) (x : Int) (h : xs[k]? = some (.int .i64 x)) : (part 3 xs k).run Tryz.prog W = .ok (.int .i64 x) W := by
  unfold part
  simp [h, go_sem]
theorem part_dir (xs : Array Value) (k : Nat) (ys : Array Value) (h : xs.extract k (k + 8) = ys) : (part 38 xs k).run Tryz.prog W = .ok (.agg ys) W := by
  unfold part
  simp [h, go_sem]
theorem under24 : Tryz.prog.underlying 40 = some (.struct (Tryz.prog.fieldsOf 40)) := by kernel_rfl
theorem guard24 : Tryz.prog.eqGuardType Tryz.prog.depth 40 = false := by kernel_rfl
theorem guard_at24 (x y : Operand) (xs ys : Array Value) (op : BinOp) : (eqGuard op 40 x y (.agg xs) (.agg ys)).run Tryz.prog W = .ok () W := run_eqGuard_agg W op 40 x y xs ys guard24
theorem seven_of {α : Type} {l : List α} (h : l.length = 7) : ∃ a b c d e f g, l = [a, b, c, d, e, f, g] := by
  match l, h with
  | [a, b, c, d, e, f, g], _ => exact ⟨a, b, c, d, e, f, g, rfl⟩
theorem items_nil (d e c : Nat) (xs ys : Array Value) : (Op.eqItems d e c xs ys []).run Tryz.prog W = .ok true W := by simp [Op.eqItems]
theorem fields_nil (d : Nat) (xs ys : Array Value) : (Op.eqFields d xs ys []).run Tryz.prog W = .ok true W := by simp [Op.eqFields]
theorem cells3 : Tryz.prog.cellsOf 3 = 1 := by kernel_rfl
theorem eq3 (d : Nat) (x y : Int) : (Op.equalIn (d + 1) 3 (.int .i64 x) (.int .i64 y)).run Tryz.prog W = .ok (x == y) W := run_equalIn_int W d 3 .i64 .i64 x y Tryz.underlying3
theorem eq5 (d : Nat) (x y : Int) : (Op.equalIn (d + 1) 5 (.int .u8 x) (.int .u8 y)).run Tryz.prog W = .ok (x == y) W := run_equalIn_int W d 5 .u8 .u8 x y Tryz.underlying5
theorem info_int : ∃ i, Tryz.prog.info? 3 = some i := Option.isSome_iff_exists.1 (by kernel_rfl)
theorem dir_eq (d : Nat) (a0 a1 a2 a3 a4 a5 a6 a7 b0 b1 b2 b3 b4 b5 b6 b7 : Int) :
    (Op.equalIn (d + 2) 38 (.agg #[.int .i64 a0, .int .i64 a1, .int .i64 a2, .int .i64 a3, .int .i64 a4, .int .i64 a5, .int .i64 a6, .int .i64 a7]) (.agg #[.int .i64 b0, .int .i64 b1, .int .i64 b2, .int .i64 b3, .int .i64 b4, .int .i64 b5, .int .i64 b6, .int .i64 b7])).run Tryz.prog W =
      .ok (a0 == b0 && (a1 == b1 && (a2 == b2 && (a3 == b3 && (a4 == b4 && (a5 == b5 && (a6 == b6 && (a7 == b7 && true)))))))) W := by
  obtain ⟨i, hi⟩ := info_int
  rw [run_equalIn_array W (d + 1) _ _ Tryz.underlying38 hi, cells3]
  have e : List.range 8 = [0, 1, 2, 3, 4, 5, 6, 7] := rfl
  rw [e]
  refine items_step W (part_i64 W _ _ a0 rfl) (part_i64 W _ _ b0 rfl) (eq3 W d _ _) ?_
  refine items_step W (part_i64 W _ _ a1 rfl) (part_i64 W _ _ b1 rfl) (eq3 W d _ _) ?_
  refine items_step W (part_i64 W _ _ a2 rfl) (part_i64 W _ _ b2 rfl) (eq3 W d _ _) ?_
  refine items_step W (part_i64 W _ _ a3 rfl) (part_i64 W _ _ b3 rfl) (eq3 W d _ _) ?_
  refine items_step W (part_i64 W _ _ a4 rfl) (part_i64 W _ _ b4 rfl) (eq3 W d _ _) ?_
  refine items_step W (part_i64 W _ _ a5 rfl) (part_i64 W _ _ b5 rfl) (eq3 W d _ _) ?_
  refine items_step W (part_i64 W _ _ a6 rfl) (part_i64 W _ _ b6 rfl) (eq3 W d _ _) ?_
  refine items_step W (part_i64 W _ _ a7 rfl) (part_i64 W _ _ b7 rfl) (eq3 W d _ _) ?_
  exact items_nil W _ _ _ _ _
theorem ino_fields (n m : Ino) (hn : Oki n) (hm : Oki m) : (Op.eqFields 9999 (cellsI n).toArray (cellsI m).toArray (Tryz.prog.fieldsOf 40).toList).run Tryz.prog W = .ok (decB (n = m)) W := by
  obtain ⟨k, r, l, s, p⟩ := n
  obtain ⟨k', r', l', s', p'⟩ := m
  obtain ⟨p0, p1, p2, p3, p4, p5, p6, p7, p8, p9, hp⟩ := ten_of hn.len
  obtain ⟨q0, q1, q2, q3, q4, q5, q6, q7, q8, q9, hq⟩ := ten_of hm.len
  simp only at hp hq
  subst hp hq
  have hl : (Tryz.prog.fieldsOf 40).toList.length = 7 := by kernel_rfl
  have hmm : (Tryz.prog.fieldsOf 40).toList.map (fun f => (f.name == "_", f.type, f.offset)) = [(false, 5, 0), (false, 5, 1), (false, 3, 2), (false, 3, 3), (false, 38, 4), (false, 3, 12), (false, 3, 13)] := by kernel_rfl
  obtain ⟨f0, f1, f2, f3, f4, f5, f6, e⟩ := seven_of hl
  rw [e] at hmm ⊢
  simp only [List.map_cons, List.map_nil, List.cons.injEq, Prod.mk.injEq, and_true] at hmm
  obtain ⟨⟨n0, t0, o0⟩, ⟨n1, t1, o1⟩, ⟨n2, t2, o2⟩, ⟨n3, t3, o3⟩, ⟨n4, t4, o4⟩, ⟨n5, t5, o5⟩, n6, t6, o6⟩ := hmm
  have n0 : f0.name ≠ "_" := by simpa using n0
  have n1 : f1.name ≠ "_" := by simpa using n1
  have n2 : f2.name ≠ "_" := by simpa using n2
  have n3 : f3.name ≠ "_" := by simpa using n3
  have n4 : f4.name ≠ "_" := by simpa using n4
  have n5 : f5.name ≠ "_" := by simpa using n5
  have n6 : f6.name ≠ "_" := by simpa using n6
  have fin : decB ((⟨k, r, l, s, [p0, p1, p2, p3, p4, p5, p6, p7, p8, p9]⟩ : Ino) = ⟨k', r', l', s', [q0, q1, q2, q3, q4, q5, q6, q7, q8, q9]⟩) =
      ((k : Int) == (k' : Int) && ((r : Int) == (r' : Int) && (l == l' && (s == s' && ((p0 == q0 && (p1 == q1 && (p2 == q2 && (p3 == q3 && (p4 == q4 && (p5 == q5 && (p6 == q6 && (p7 == q7 && true)))))))) && (p8 == q8 && (p9 == q9 && true))))))) := by
    rw [Bool.eq_iff_iff]
    unfold decB
    rw [@decide_eq_true_iff _ (Classical.propDecidable _)]
    simp only [Ino.mk.injEq, List.cons.injEq, Bool.and_eq_true, beq_iff_eq, and_true, Int.natCast_inj]
    constructor
    · rintro ⟨h1, h2, h3, h4, h5, h6, h7, h8, h9, h10, h11, h12, h13, h14⟩
      exact ⟨h1, h2, h3, h4, ⟨h5, h6, h7, h8, h9, h10, h11, h12⟩, h13, h14⟩
    · rintro ⟨h1, h2, h3, h4, ⟨h5, h6, h7, h8, h9, h10, h11, h12⟩, h13, h14⟩
      exact ⟨h1, h2, h3, h4, h5, h6, h7, h8, h9, h10, h11, h12, h13, h14⟩
  rw [fin]
  refine fields_step W n0 (by rw [t0, o0]; exact part_u8 W _ _ (k : Int) rfl) (by rw [t0, o0]; exact part_u8 W _ _ (k' : Int) rfl) (by rw [t0]; exact eq5 W _ _ _) ?_
  refine fields_step W n1 (by rw [t1, o1]; exact part_u8 W _ _ (r : Int) rfl) (by rw [t1, o1]; exact part_u8 W _ _ (r' : Int) rfl) (by rw [t1]; exact eq5 W _ _ _) ?_
  refine fields_step W n2 (by rw [t2, o2]; exact part_i64 W _ _ l rfl) (by rw [t2, o2]; exact part_i64 W _ _ l' rfl) (by rw [t2]; exact eq3 W _ _ _) ?_
  refine fields_step W n3 (by rw [t3, o3]; exact part_i64 W _ _ s rfl) (by rw [t3, o3]; exact part_i64 W _ _ s' rfl) (by rw [t3]; exact eq3 W _ _ _) ?_
  refine fields_step W n4 (by rw [t4, o4]; exact part_dir W _ _ #[.int .i64 p0, .int .i64 p1, .int .i64 p2, .int .i64 p3, .int .i64 p4, .int .i64 p5, .int .i64 p6, .int .i64 p7] rfl) (by rw [t4, o4]; exact part_dir W _ _ #[.int .i64 q0, .int .i64 q1, .int .i64 q2, .int .i64 q3, .int .i64 q4, .int .i64 q5, .int .i64 q6, .int .i64 q7] rfl) (by rw [t4]; exact dir_eq W _ _ _ _ _ _ _ _ _ _ _ _ _ _ _ _ _) ?_
  refine fields_step W n5 (by rw [t5, o5]; exact part_i64 W _ _ p8 rfl) (by rw [t5, o5]; exact part_i64 W _ _ q8 rfl) (by rw [t5]; exact eq3 W _ _ _) ?_
  refine fields_step W n6 (by rw [t6, o6]; exact part_i64 W _ _ p9 rfl) (by rw [t6, o6]; exact part_i64 W _ _ q9 rfl) (by rw [t6]; exact eq3 W _ _ _) ?_
  exact fields_nil W _ _ _
theorem ino_eql (n m : Ino) (hn : Oki n) (hm : Oki m) : (binOp .eql 40 (inoV n) (inoV m)).run Tryz.prog W = .ok (.bool (decB (n = m))) W := by
  unfold inoV
  rw [run_eql_struct, run_equalIn_agg W 9999 40 _ _ under24 (by kernel_rfl), ino_fields W n m hn hm]
  rfl
theorem ino_neq (n m : Ino) (hn : Oki n) (hm : Oki m) : (binOp .neq 40 (inoV n) (inoV m)).run Tryz.prog W = .ok (.bool (!(decB (n = m)))) W := by
  unfold inoV
  rw [run_neq_struct, run_equalIn_agg W 9999 40 _ _ under24 (by kernel_rfl), ino_fields W n m hn hm]
  rfl
end
end Go.Proofs.YtcjkbmmjpkghlaaGreat.Inode

/-
  The pointers of an inode, taken out of it and put into it: package inode's pointersOf and withPointers.
-/
namespace Go.Proofs.YtcjkbmmjpkghlaaGreat.Inode
open Go.RowKit

theorem size3 : (Tryz.prog.info? 3).map (·.size) = some 1 := by kernel_rfl
theorem ten_cells {w : World} {g : Nat} {e : TypeId} {a0 a1 a2 a3 a4 a5 a6 a7 a8 a9 : Value} (h : Bk w g e [a0, a1, a2, a3, a4, a5, a6, a7, a8, a9]) : w.cell? ⟨g, 0, none⟩ = some a0 ∧ w.cell? ⟨g, 1, none⟩ = some a1 ∧ w.cell? ⟨g, 2, none⟩ = some a2 ∧ w.cell? ⟨g, 3, none⟩ = some a3 ∧ w.cell? ⟨g, 4, none⟩ = some a4 ∧ w.cell? ⟨g, 5, none⟩ = some a5 ∧ w.cell? ⟨g, 6, none⟩ = some a6 ∧ w.cell? ⟨g, 7, none⟩ = some a7 ∧ w.cell? ⟨g, 8, none⟩ = some a8 ∧ w.cell? ⟨g, 9, none⟩ = some a9 := ⟨h.cell 0, h.cell 1, h.cell 2, h.cell 3, h.cell 4, h.cell 5, h.cell 6, h.cell 7, h.cell 8, h.cell 9⟩
theorem ten_frozen {w : World} {g : Nat} {e : TypeId} {a0 a1 a2 a3 a4 a5 a6 a7 a8 a9 : Value} (h : Bk w g e [a0, a1, a2, a3, a4, a5, a6, a7, a8, a9]) : w.frozen? ⟨g, 0, none⟩ = false ∧ w.frozen? ⟨g, 1, none⟩ = false ∧ w.frozen? ⟨g, 2, none⟩ = false ∧ w.frozen? ⟨g, 3, none⟩ = false ∧ w.frozen? ⟨g, 4, none⟩ = false ∧ w.frozen? ⟨g, 5, none⟩ = false ∧ w.frozen? ⟨g, 6, none⟩ = false ∧ w.frozen? ⟨g, 7, none⟩ = false ∧ w.frozen? ⟨g, 8, none⟩ = false ∧ w.frozen? ⟨g, 9, none⟩ = false := ⟨h.frozen 0, h.frozen 1, h.frozen 2, h.frozen 3, h.frozen 4, h.frozen 5, h.frozen 6, h.frozen 7, h.frozen 8, h.frozen 9⟩
theorem ino_cells {w : World} {g : Nat} {e : TypeId} {a0 a1 a2 a3 a4 a5 a6 a7 a8 a9 a10 a11 a12 a13 : Value} (h : Bk w g e [a0, a1, a2, a3, a4, a5, a6, a7, a8, a9, a10, a11, a12, a13]) : w.cell? ⟨g, 0, none⟩ = some a0 ∧ w.cell? ⟨g, 1, none⟩ = some a1 ∧ w.cell? ⟨g, 2, none⟩ = some a2 ∧ w.cell? ⟨g, 3, none⟩ = some a3 ∧ w.cell? ⟨g, 4, none⟩ = some a4 ∧ w.cell? ⟨g, 5, none⟩ = some a5 ∧ w.cell? ⟨g, 6, none⟩ = some a6 ∧ w.cell? ⟨g, 7, none⟩ = some a7 ∧ w.cell? ⟨g, 8, none⟩ = some a8 ∧ w.cell? ⟨g, 9, none⟩ = some a9 ∧ w.cell? ⟨g, 10, none⟩ = some a10 ∧ w.cell? ⟨g, 11, none⟩ = some a11 ∧ w.cell? ⟨g, 12, none⟩ = some a12 ∧ w.cell? ⟨g, 13, none⟩ = some a13 := ⟨h.cell 0, h.cell 1, h.cell 2, h.cell 3, h.cell 4, h.cell 5, h.cell 6, h.cell 7, h.cell 8, h.cell 9, h.cell 10, h.cell 11, h.cell 12, h.cell 13⟩
theorem ino_frozen {w : World} {g : Nat} {e : TypeId} {a0 a1 a2 a3 a4 a5 a6 a7 a8 a9 a10 a11 a12 a13 : Value} (h : Bk w g e [a0, a1, a2, a3, a4, a5, a6, a7, a8, a9, a10, a11, a12, a13]) : w.frozen? ⟨g, 0, none⟩ = false ∧ w.frozen? ⟨g, 1, none⟩ = false ∧ w.frozen? ⟨g, 2, none⟩ = false ∧ w.frozen? ⟨g, 3, none⟩ = false ∧ w.frozen? ⟨g, 4, none⟩ = false ∧ w.frozen? ⟨g, 5, none⟩ = false ∧ w.frozen? ⟨g, 6, none⟩ = false ∧ w.frozen? ⟨g, 7, none⟩ = false ∧ w.frozen? ⟨g, 8, none⟩ = false ∧ w.frozen? ⟨g, 9, none⟩ = false ∧ w.frozen? ⟨g, 10, none⟩ = false ∧ w.frozen? ⟨g, 11, none⟩ = false ∧ w.frozen? ⟨g, 12, none⟩ = false ∧ w.frozen? ⟨g, 13, none⟩ = false := ⟨h.frozen 0, h.frozen 1, h.frozen 2, h.frozen 3, h.frozen 4, h.frozen 5, h.frozen 6, h.frozen 7, h.frozen 8, h.frozen 9, h.frozen 10, h.frozen 11, h.frozen 12, h.frozen 13⟩
theorem oneints (l : List Int) : ∀ v ∈ intsV l, v.oneCell' = true := intsV_one l
/-- Three blocks made. -/
theorem three (w : World) (xs ys zs : List Value) (a b c : TypeId) : ∀ W, W = ((w.alloc (.cells xs.toArray a)).alloc (.cells ys.toArray b)).alloc (.cells zs.toArray c) →
    Bk W w.heap.size a xs ∧ Bk W (w.heap.size + 1) b ys ∧ Bk W (w.heap.size + 1 + 1) c zs ∧ Below w.heap.size w W ∧ W.heap.size = w.heap.size + 3 := by
  rintro W rfl
  have h1 := Bk.new w a xs
  have b1 := alloc_below w (.cells xs.toArray a)
  have s1 : (w.alloc (.cells xs.toArray a)).heap.size = w.heap.size + 1 := by simp
  generalize w.alloc (.cells xs.toArray a) = w1 at *
  have h2 := Bk.new w1 b ys
  have b2 := alloc_below w1 (.cells ys.toArray b)
  have s2 : (w1.alloc (.cells ys.toArray b)).heap.size = w1.heap.size + 1 := by simp
  generalize w1.alloc (.cells ys.toArray b) = w2 at *
  have h3 := Bk.new w2 c zs
  have b3 := alloc_below w2 (.cells zs.toArray c)
  have s3 : (w2.alloc (.cells zs.toArray c)).heap.size = w2.heap.size + 1 := by simp
  generalize w2.alloc (.cells zs.toArray c) = w3 at *
  rw [s1] at h2
  rw [s2, s1] at h3
  exact ⟨(h1.below b2 (by omega)).below b3 (by omega), h2.below b3 (by omega), h3, (b1.trans (b2.mono (by omega))).trans (b3.mono (by omega)), by omega⟩

/-- 'copy' into a row, as a step of a region: what the row is then, and that nothing else has turned. -/
theorem row_grown (w : World) (g : Nat) : ∀ cs : Array Value, w.grownBy (w.setRow g cs) (some g) := fun cs =>
  ⟨rfl, rfl, rfl, by simp [World.setRow], fun k _ hne => setRow_other w g k cs (by rintro rfl; exact hne rfl)⟩
theorem step_copy_row {P : Program} {ops : Array Oper} {o : Oper} {a : Act} {w : World} {K : Act → World → Prop} {Q : Exit → Act → World → Prop} {E : Prop} (hgd : o.guard = none) (d s : Operand) (dT sT : TypeId)
    (ho : o.op = .call { callee := .builtin .copy, args := #[d, s], argTypes := #[dT, sT] }) (elem : TypeId) (hu : P.underlying dT = some (.slice elem)) (hsz : (P.info? elem).map (·.size) = some 1)
    (g off dLen dCap : Nat) (ad : Addr) (sLen sCap : Nat) (hd : a.eval d = .slice (some ⟨g, off, none⟩) dLen dCap) (hs : a.eval s = .slice (some ad) sLen sCap)
    (cur : List Value) (t : TypeId) (hg : w.heap[g]? = some (.cells cur.toArray t (0, 0))) (cs : List Value) (hn : cs.length = Nat.min sLen dLen)
    (hsrc : ∀ j v, cs[j]? = some v → w.cell? (ad.add j) = some v) (hfit : off + cs.length ≤ cur.length) (h1 : ∀ v ∈ cs, v.oneCell' = true)
    (h : ∀ w', Hid (w'.heap[g]? = some (.cells (splice cur off cs).toArray t (0, 0))) → Hid (w.grownBy w' (some g)) → K (a.put o.dst (goInt cs.length)) w') :
    if Region.wanted o (yielded ops a.tmps) = true then Oper.wp P o a w K Q else E := by
  have hw : Region.wanted o (yielded ops a.tmps) = true := by simp [Region.wanted, hgd]
  rw [if_pos hw]
  have hrun := run_copy_row (P := P) w dT sT o.type elem g off dLen dCap ad sLen sCap cur.toArray t cs hu hsz hg hn hsrc (by simpa using hfit) h1
  unfold Oper.wp
  simp [execOp, ho, resolve, invoke, builtin, hd, hs, hrun, Result.andThen]
  exact h _ (show _ = _ by simpa [splice] using setRow_heap w g _ _ t _ hg) (row_grown _ _ _)

theorem src8 {W : World} {b : Nat} {k r : Nat} {l s p0 p1 p2 p3 p4 p5 p6 p7 p8 p9 : Int} (h : Bk W b 40 [.int .u8 (k : Int), .int .u8 (r : Int), .int .i64 l, .int .i64 s, .int .i64 p0, .int .i64 p1, .int .i64 p2, .int .i64 p3, .int .i64 p4, .int .i64 p5, .int .i64 p6, .int .i64 p7, .int .i64 p8, .int .i64 p9]) : ∀ j v, (intsV [p0, p1, p2, p3, p4, p5, p6, p7])[j]? = some v → W.drew.cell? (Addr.add ⟨b, 4, none⟩ j) = some v := by
  intro j v hv
  have e : (intsV [p0, p1, p2, p3, p4, p5, p6, p7]) = (([.int .u8 (k : Int), .int .u8 (r : Int), .int .i64 l, .int .i64 s, .int .i64 p0, .int .i64 p1, .int .i64 p2, .int .i64 p3, .int .i64 p4, .int .i64 p5, .int .i64 p6, .int .i64 p7, .int .i64 p8, .int .i64 p9] : List Value).drop 4).take 8 := rfl
  rw [e, List.getElem?_take] at hv
  split at hv
  · rw [List.getElem?_drop] at hv
    rw [Addr.add_lit]
    exact (h.cell (4 + j)).trans hv
  · simp at hv

set_option maxHeartbeats 1600000 in
set_option maxRecDepth 100000 in
theorem pof_ten (k r : Nat) (l s p0 p1 p2 p3 p4 p5 p6 p7 p8 p9 : Int) (w : World) :
    Calls Tryz.prog 150 #[.agg #[.int .u8 (k : Int), .int .u8 (r : Int), .int .i64 l, .int .i64 s, .int .i64 p0, .int .i64 p1, .int .i64 p2, .int .i64 p3, .int .i64 p4, .int .i64 p5, .int .i64 p6, .int .i64 p7, .int .i64 p8, .int .i64 p9]] w fun e w' => e = .returned (.agg #[.int .i64 p0, .int .i64 p1, .int .i64 p2, .int .i64 p3, .int .i64 p4, .int .i64 p5, .int .i64 p6, .int .i64 p7, .int .i64 p8, .int .i64 p9]) ∧ Below w.heap.size w w' := by
  have H3 := Lib.hid (three w [.int .u8 (k : Int), .int .u8 (r : Int), .int .i64 l, .int .i64 s, .int .i64 p0, .int .i64 p1, .int .i64 p2, .int .i64 p3, .int .i64 p4, .int .i64 p5, .int .i64 p6, .int .i64 p7, .int .i64 p8, .int .i64 p9] [.int .i64 0, .int .i64 0, .int .i64 0, .int .i64 0, .int .i64 0, .int .i64 0, .int .i64 0, .int .i64 0, .int .i64 0, .int .i64 0] [.int .i64 0, .int .i64 0, .int .i64 0, .int .i64 0, .int .i64 0, .int .i64 0, .int .i64 0, .int .i64 0, .int .i64 0, .int .i64 0] 40 198 198)
  go_enter Tryz.func150, Tryz.ntmps150
  go_wp2
  obtain ⟨W, hW⟩ : ∃ W, W = ((w.alloc (.cells #[.int .u8 (k : Int), .int .u8 (r : Int), .int .i64 l, .int .i64 s, .int .i64 p0, .int .i64 p1, .int .i64 p2, .int .i64 p3, .int .i64 p4, .int .i64 p5, .int .i64 p6, .int .i64 p7, .int .i64 p8, .int .i64 p9] 40)).alloc (.cells #[.int .i64 0, .int .i64 0, .int .i64 0, .int .i64 0, .int .i64 0, .int .i64 0, .int .i64 0, .int .i64 0, .int .i64 0, .int .i64 0] 198)).alloc (.cells #[.int .i64 0, .int .i64 0, .int .i64 0, .int .i64 0, .int .i64 0, .int .i64 0, .int .i64 0, .int .i64 0, .int .i64 0, .int .i64 0] 198) := ⟨_, rfl⟩
  rw [← hW]
  obtain ⟨hA, hR, hP, hB, hS⟩ := H3.out W hW
  clear hW H3
  have HA := Lib.hid hA
  have HR := Lib.hid hR
  have HP := Lib.hid hP
  have HB := Lib.hid hB
  have HS := Lib.hid hS
  clear hA hR hP hB hS
  have hsrc := Lib.hid (src8 HA.out)
  have hpw : W.drew.heap[w.heap.size + 1 + 1]? = some (.cells [.int .i64 0, .int .i64 0, .int .i64 0, .int .i64 0, .int .i64 0, .int .i64 0, .int .i64 0, .int .i64 0, .int .i64 0, .int .i64 0].toArray 198 (0, 0)) := HP.out
  have hpp := Lib.hid hpw
  have hbb := Lib.hid (Below.refl (w.heap.size + 1 + 1) W.drew)
  have hle : w.heap.size + 1 + 1 ≤ w.heap.size + 1 + 1 := Nat.le_refl _
  clear hpw
  go_region_law (refine step_copy_splice rfl (.tmp 4) (.tmp 6) 57 57 rfl 3 Tryz.underlying57 size3 (some ⟨w.heap.size + 1 + 1, 0, none⟩) (some ⟨w.heap.size, 4, none⟩) 10 10 8 8 rfl rfl (w.heap.size + 1 + 1) 0 [.int .i64 0, .int .i64 0, .int .i64 0, .int .i64 0, .int .i64 0, .int .i64 0, .int .i64 0, .int .i64 0, .int .i64 0, .int .i64 0] 198 hpp.out (intsV [p0, p1, p2, p3, p4, p5, p6, p7]) rfl (fun _ => ⟨rfl, ⟨w.heap.size, 4, none⟩, rfl, hsrc.out⟩) (show 0 + 8 ≤ 10 by decide) (intsV_one _) (w.heap.size + 1 + 1) W.drew hbb.out hle ?_; intro w4 hg4 hb4)
  have hA4 : Bk w4 w.heap.size 40 [.int .u8 (k : Int), .int .u8 (r : Int), .int .i64 l, .int .i64 s, .int .i64 p0, .int .i64 p1, .int .i64 p2, .int .i64 p3, .int .i64 p4, .int .i64 p5, .int .i64 p6, .int .i64 p7, .int .i64 p8, .int .i64 p9] := (show Bk W.drew w.heap.size 40 [.int .u8 (k : Int), .int .u8 (r : Int), .int .i64 l, .int .i64 s, .int .i64 p0, .int .i64 p1, .int .i64 p2, .int .i64 p3, .int .i64 p4, .int .i64 p5, .int .i64 p6, .int .i64 p7, .int .i64 p8, .int .i64 p9] from HA.out).below hb4 (by omega)
  have hR4 : Bk w4 (w.heap.size + 1) 198 [.int .i64 0, .int .i64 0, .int .i64 0, .int .i64 0, .int .i64 0, .int .i64 0, .int .i64 0, .int .i64 0, .int .i64 0, .int .i64 0] := (show Bk W.drew (w.heap.size + 1) 198 [.int .i64 0, .int .i64 0, .int .i64 0, .int .i64 0, .int .i64 0, .int .i64 0, .int .i64 0, .int .i64 0, .int .i64 0, .int .i64 0] from HR.out).below hb4 (by omega)
  have hP4 : Bk w4 (w.heap.size + 1 + 1) 198 [.int .i64 p0, .int .i64 p1, .int .i64 p2, .int .i64 p3, .int .i64 p4, .int .i64 p5, .int .i64 p6, .int .i64 p7, .int .i64 0, .int .i64 0] := hg4.out
  have hB4 : Below w.heap.size w w4 := (below_drew HB.out).trans (hb4.mono (by omega))
  have hs4 : w.heap.size + 3 ≤ w4.heap.size := by
    have h1 := hb4.size
    have h2 := HS.out
    have h3 : W.drew.heap.size = W.heap.size := rfl
    omega
  clear hg4 hb4 hsrc hpp hbb hle HA HR HP HB HS
  obtain ⟨a0, a1, a2, a3, a4, a5, a6, a7, a8, a9, a10, a11, a12, a13⟩ := ino_cells hA4
  obtain ⟨r0, r1, r2, r3, r4, r5, r6, r7, r8, r9⟩ := ten_cells hR4
  obtain ⟨g0, g1, g2, g3, g4, g5, g6, g7, g8, g9⟩ := ten_frozen hR4
  obtain ⟨c0, c1, c2, c3, c4, c5, c6, c7, c8, c9⟩ := ten_cells hP4
  obtain ⟨f0, f1, f2, f3, f4, f5, f6, f7, f8, f9⟩ := ten_frozen hP4
  have HB4 := Lib.hid hB4
  have HS4 := Lib.hid hs4
  clear hA4 hR4 hP4 hB4 hs4
  go_wp2
  refine bodyPost_ret (v := .agg #[.int .i64 p0, .int .i64 p1, .int .i64 p2, .int .i64 p3, .int .i64 p4, .int .i64 p5, .int .i64 p6, .int .i64 p7, .int .i64 p8, .int .i64 p9]) (by simp [results, Tryz.results150, go_sem, *]) rfl ⟨rfl, ?_⟩
  have hb := HB4.out
  repeat (first | with_reducible exact hb | with_reducible refine below_drewN ?_ _ | with_reducible refine Below.setCell ?_ ?_ _ | with_reducible refine Below.alloc ?_ ?_ _)
  all_goals (simp <;> omega)

theorem srcq {W : World} {b : Nat} {q0 q1 q2 q3 q4 q5 q6 q7 q8 q9 : Int} (h : Bk W b 198 [.int .i64 q0, .int .i64 q1, .int .i64 q2, .int .i64 q3, .int .i64 q4, .int .i64 q5, .int .i64 q6, .int .i64 q7, .int .i64 q8, .int .i64 q9]) : ∀ j v, (intsV [q0, q1, q2, q3, q4, q5, q6, q7])[j]? = some v → W.drew.cell? (Addr.add ⟨b, 0, none⟩ j) = some v := by
  intro j v hv
  have e : (intsV [q0, q1, q2, q3, q4, q5, q6, q7]) = ([.int .i64 q0, .int .i64 q1, .int .i64 q2, .int .i64 q3, .int .i64 q4, .int .i64 q5, .int .i64 q6, .int .i64 q7, .int .i64 q8, .int .i64 q9] : List Value).take 8 := rfl
  rw [e, List.getElem?_take] at hv
  split at hv
  · rw [Addr.add_lit, Nat.zero_add]
    exact (h.cell j).trans hv
  · simp at hv

set_option maxHeartbeats 1600000 in
set_option maxRecDepth 100000 in
theorem wp_ten (k r : Nat) (l s p0 p1 p2 p3 p4 p5 p6 p7 p8 p9 q0 q1 q2 q3 q4 q5 q6 q7 q8 q9 : Int) (w : World) :
    Calls Tryz.prog 212 #[.agg #[.int .u8 (k : Int), .int .u8 (r : Int), .int .i64 l, .int .i64 s, .int .i64 p0, .int .i64 p1, .int .i64 p2, .int .i64 p3, .int .i64 p4, .int .i64 p5, .int .i64 p6, .int .i64 p7, .int .i64 p8, .int .i64 p9], .agg #[.int .i64 q0, .int .i64 q1, .int .i64 q2, .int .i64 q3, .int .i64 q4, .int .i64 q5, .int .i64 q6, .int .i64 q7, .int .i64 q8, .int .i64 q9]] w fun e w' => e = .returned (.agg #[.int .u8 (k : Int), .int .u8 (r : Int), .int .i64 l, .int .i64 s, .int .i64 q0, .int .i64 q1, .int .i64 q2, .int .i64 q3, .int .i64 q4, .int .i64 q5, .int .i64 q6, .int .i64 q7, .int .i64 q8, .int .i64 q9]) ∧ Below w.heap.size w w' := by
  have H3 := Lib.hid (three w [.int .u8 (k : Int), .int .u8 (r : Int), .int .i64 l, .int .i64 s, .int .i64 p0, .int .i64 p1, .int .i64 p2, .int .i64 p3, .int .i64 p4, .int .i64 p5, .int .i64 p6, .int .i64 p7, .int .i64 p8, .int .i64 p9] [.int .i64 q0, .int .i64 q1, .int .i64 q2, .int .i64 q3, .int .i64 q4, .int .i64 q5, .int .i64 q6, .int .i64 q7, .int .i64 q8, .int .i64 q9] [.int .u8 0, .int .u8 0, .int .i64 0, .int .i64 0, .int .i64 0, .int .i64 0, .int .i64 0, .int .i64 0, .int .i64 0, .int .i64 0, .int .i64 0, .int .i64 0, .int .i64 0, .int .i64 0] 40 198 40)
  go_enter Tryz.func212, Tryz.ntmps212
  go_wp2
  obtain ⟨W, hW⟩ : ∃ W, W = ((w.alloc (.cells #[.int .u8 (k : Int), .int .u8 (r : Int), .int .i64 l, .int .i64 s, .int .i64 p0, .int .i64 p1, .int .i64 p2, .int .i64 p3, .int .i64 p4, .int .i64 p5, .int .i64 p6, .int .i64 p7, .int .i64 p8, .int .i64 p9] 40)).alloc (.cells #[.int .i64 q0, .int .i64 q1, .int .i64 q2, .int .i64 q3, .int .i64 q4, .int .i64 q5, .int .i64 q6, .int .i64 q7, .int .i64 q8, .int .i64 q9] 198)).alloc (.cells #[.int .u8 0, .int .u8 0, .int .i64 0, .int .i64 0, .int .i64 0, .int .i64 0, .int .i64 0, .int .i64 0, .int .i64 0, .int .i64 0, .int .i64 0, .int .i64 0, .int .i64 0, .int .i64 0] 40) := ⟨_, rfl⟩
  rw [← hW]
  obtain ⟨hA, hR, hP, hB, hS⟩ := H3.out W hW
  clear hW H3
  have HA := Lib.hid hA
  have HR := Lib.hid hR
  have HP := Lib.hid hP
  have HB := Lib.hid hB
  have HS := Lib.hid hS
  clear hA hR hP hB hS
  have hsrc := Lib.hid (srcq HR.out)
  have hpw : W.drew.heap[w.heap.size]? = some (.cells [.int .u8 (k : Int), .int .u8 (r : Int), .int .i64 l, .int .i64 s, .int .i64 p0, .int .i64 p1, .int .i64 p2, .int .i64 p3, .int .i64 p4, .int .i64 p5, .int .i64 p6, .int .i64 p7, .int .i64 p8, .int .i64 p9].toArray 40 (0, 0)) := HA.out
  have hpp := Lib.hid hpw
  have hcc := Lib.hid (row_grown W.drew w.heap.size)
  have hbb := Lib.hid (below_drew HB.out)
  have hle : w.heap.size ≤ w.heap.size := Nat.le_refl _
  clear hpw
  go_region_law (refine step_copy_row rfl (.tmp 6) (.tmp 7) 57 57 rfl 3 Tryz.underlying57 size3 (w.heap.size) 4 8 8 ⟨w.heap.size + 1, 0, none⟩ 10 10 rfl rfl [.int .u8 (k : Int), .int .u8 (r : Int), .int .i64 l, .int .i64 s, .int .i64 p0, .int .i64 p1, .int .i64 p2, .int .i64 p3, .int .i64 p4, .int .i64 p5, .int .i64 p6, .int .i64 p7, .int .i64 p8, .int .i64 p9] 40 hpp.out (intsV [q0, q1, q2, q3, q4, q5, q6, q7]) rfl hsrc.out (show 4 + 8 ≤ 14 by decide) (intsV_one _) ?_; intro w4 hg4 hb4)
  have hA4 : Bk w4 w.heap.size 40 [.int .u8 (k : Int), .int .u8 (r : Int), .int .i64 l, .int .i64 s, .int .i64 q0, .int .i64 q1, .int .i64 q2, .int .i64 q3, .int .i64 q4, .int .i64 q5, .int .i64 q6, .int .i64 q7, .int .i64 p8, .int .i64 p9] := hg4.out
  have hR4 : Bk w4 (w.heap.size + 1) 198 [.int .i64 q0, .int .i64 q1, .int .i64 q2, .int .i64 q3, .int .i64 q4, .int .i64 q5, .int .i64 q6, .int .i64 q7, .int .i64 q8, .int .i64 q9] := (show Bk W.drew (w.heap.size + 1) 198 [.int .i64 q0, .int .i64 q1, .int .i64 q2, .int .i64 q3, .int .i64 q4, .int .i64 q5, .int .i64 q6, .int .i64 q7, .int .i64 q8, .int .i64 q9] from HR.out).grown hb4.out (by simp)
  have hP4 : Bk w4 (w.heap.size + 1 + 1) 40 [.int .u8 0, .int .u8 0, .int .i64 0, .int .i64 0, .int .i64 0, .int .i64 0, .int .i64 0, .int .i64 0, .int .i64 0, .int .i64 0, .int .i64 0, .int .i64 0, .int .i64 0, .int .i64 0] := (show Bk W.drew (w.heap.size + 1 + 1) 40 [.int .u8 0, .int .u8 0, .int .i64 0, .int .i64 0, .int .i64 0, .int .i64 0, .int .i64 0, .int .i64 0, .int .i64 0, .int .i64 0, .int .i64 0, .int .i64 0, .int .i64 0, .int .i64 0] from HP.out).grown hb4.out (by simp; omega)
  have hB4 : Below w.heap.size w w4 := (below_drew HB.out).grown hb4.out (by have := HS.out; show w.heap.size ≤ W.heap.size; omega) (by rintro q hq; injection hq with hq; omega)
  have hs4 : w.heap.size + 3 ≤ w4.heap.size := by
    have h1 := hb4.out.size
    have h2 := HS.out
    have h3 : W.drew.heap.size = W.heap.size := rfl
    omega
  clear hg4 hb4 hsrc hpp hbb hle HA HR HP HB HS hcc
  obtain ⟨a0, a1, a2, a3, a4, a5, a6, a7, a8, a9, a10, a11, a12, a13⟩ := ino_cells hA4
  obtain ⟨b0, b1, b2, b3, b4, b5, b6, b7, b8, b9, b10, b11, b12, b13⟩ := ino_frozen hA4
  obtain ⟨r0, r1, r2, r3, r4, r5, r6, r7, r8, r9⟩ := ten_cells hR4
  obtain ⟨c0, c1, c2, c3, c4, c5, c6, c7, c8, c9, c10, c11, c12, c13⟩ := ino_cells hP4
  obtain ⟨f0, f1, f2, f3, f4, f5, f6, f7, f8, f9, f10, f11, f12, f13⟩ := ino_frozen hP4
  have HB4 := Lib.hid hB4
  have HS4 := Lib.hid hs4
  clear hA4 hR4 hP4 hB4 hs4
  go_wp2
  refine bodyPost_ret (v := .agg #[.int .u8 (k : Int), .int .u8 (r : Int), .int .i64 l, .int .i64 s, .int .i64 q0, .int .i64 q1, .int .i64 q2, .int .i64 q3, .int .i64 q4, .int .i64 q5, .int .i64 q6, .int .i64 q7, .int .i64 q8, .int .i64 q9]) (by simp [results, Tryz.results212, go_sem, *]) rfl ⟨rfl, ?_⟩
  have hb := HB4.out
  repeat (first | with_reducible exact hb | with_reducible refine below_drewN ?_ _ | with_reducible refine Below.setCell ?_ ?_ _ | with_reducible refine Below.alloc ?_ ?_ _)
  all_goals (simp <;> omega)
end Go.Proofs.YtcjkbmmjpkghlaaGreat.Inode

/-
  Whether an inode is valid: package inode's Right and the document's.
-/
namespace Go.Proofs.YtcjkbmmjpkghlaaGreat.Inode
open Go.RowKit

theorem not_row {k r : Nat} {l s : Int} {p : List Int} (hk : k ≠ 0) (h : ¬ r < 16) : rightB ⟨k, r, l, s, p⟩ = false := rightB_no fun hR => by
  rcases hR with hR | hR
  · exact hk (congrArg Ino.k hR)
  · exact h hR.row
theorem not_l {k r : Nat} {l s : Int} {p : List Int} (hk : k ≠ 0) (h : upB 65535 l = false) : rightB ⟨k, r, l, s, p⟩ = false := rightB_no fun hR => by
  rcases hR with hR | hR
  · exact hk (congrArg Ino.k hR)
  · rw [upB_iff.2 ⟨hR.l0, hR.l1⟩] at h; cases h
theorem not_s {k r : Nat} {l s : Int} {p : List Int} (hk : k ≠ 0) (h : upB 3840 s = false) : rightB ⟨k, r, l, s, p⟩ = false := rightB_no fun hR => by
  rcases hR with hR | hR
  · exact hk (congrArg Ino.k hR)
  · rw [upB_iff.2 ⟨hR.s0, hR.s1⟩] at h; cases h
theorem not_kind {k r : Nat} {l s : Int} {p : List Int} (h : 2 < k) : rightB ⟨k, r, l, s, p⟩ = false := rightB_no fun hR => by
  rcases hR with hR | hR
  · have := congrArg Ino.k hR; simp [Ino.z] at this; omega
  · have := hR.kind; simp only at this; omega
theorem is_ptr {k r : Nat} {l s : Int} {p : List Int} (hk : k = 1 ∨ k = 2) (h : r < 16) (hl : upB 65535 l = true) (hs : upB 3840 s = true) : rightB ⟨k, r, l, s, p⟩ = p.all ptrB := by
  have h1 := upB_iff.1 hl
  have h2 := upB_iff.1 hs
  cases hp : p.all ptrB
  · refine rightB_no fun hR => ?_
    rcases hR with hR | hR
    · have := congrArg Ino.k hR; simp [Ino.z] at this; omega
    · have := hR.ptr; simp only at this; rw [hp] at this; cases this
  · exact rightB_yes (.inr ⟨hk, h, h1.1, h1.2, h2.1, h2.2, hp⟩)
theorem is_free {r : Nat} {l s : Int} {p : List Int} : rightB ⟨0, r, l, s, p⟩ = decB ((⟨0, r, l, s, p⟩ : Ino) = .z) := by
  by_cases h : (⟨0, r, l, s, p⟩ : Ino) = .z
  · rw [decB_yes h]; exact rightB_yes (.inl h)
  · rw [decB_no h]
    refine rightB_no fun hR => ?_
    rcases hR with hR | hR
    · exact h hR
    · have := hR.kind; simp only at this; omega

/-- An inode that was boxed, behind a call. -/
theorem kept_ino {w w1 : World} {a0 a1 a2 a3 a4 a5 a6 a7 a8 a9 a10 a11 a12 a13 : Value} (hb : Below (w.alloc (.cells #[a0, a1, a2, a3, a4, a5, a6, a7, a8, a9, a10, a11, a12, a13] 40)).heap.size (w.alloc (.cells #[a0, a1, a2, a3, a4, a5, a6, a7, a8, a9, a10, a11, a12, a13] 40)) w1) :
    Bk w1 w.heap.size 40 [a0, a1, a2, a3, a4, a5, a6, a7, a8, a9, a10, a11, a12, a13] ∧ Below w.heap.size w w1 ∧ w.heap.size < w1.heap.size := by
  have hk : Bk (w.alloc (.cells #[a0, a1, a2, a3, a4, a5, a6, a7, a8, a9, a10, a11, a12, a13] 40)) w.heap.size 40 [a0, a1, a2, a3, a4, a5, a6, a7, a8, a9, a10, a11, a12, a13] := Bk.new w 40 _
  exact ⟨hk.below hb (by simp), (alloc_below w _).trans (hb.mono (by simp)), by have := hb.size; simp at this; omega⟩
theorem rd_ten (w : World) (p : List Int) : Rd (w.alloc (.cells (intsV p).toArray 198)) (w.heap.size + 1) (some ⟨w.heap.size, 0, none⟩) (intsV p) :=
  .inr ⟨w.heap.size, 0, rfl, Nat.lt_succ_self _, fun i v hv => by
    rw [Nat.zero_add, World.cell?_alloc_at _ _ _ _ rfl]
    simpa using hv⟩

set_option maxHeartbeats 1600000 in
set_option maxRecDepth 100000 in
theorem right_used1 (r : Nat) (l s p0 p1 p2 p3 p4 p5 p6 p7 p8 p9 : Int) (w : World) (hr : r < 256) :
    Calls Tryz.prog 92 #[.agg #[.int .u8 1, .int .u8 (r : Int), .int .i64 l, .int .i64 s, .int .i64 p0, .int .i64 p1, .int .i64 p2, .int .i64 p3, .int .i64 p4, .int .i64 p5, .int .i64 p6, .int .i64 p7, .int .i64 p8, .int .i64 p9]] w fun e w' => e = .returned (.bool (rightB (⟨1, r, l, s, [p0, p1, p2, p3, p4, p5, p6, p7, p8, p9]⟩ : Ino))) ∧ Below w.heap.size w w' := by
  have HPF : Hid (∀ W : World, Calls Tryz.prog 150 #[.agg #[.int .u8 1, .int .u8 (r : Int), .int .i64 l, .int .i64 s, .int .i64 p0, .int .i64 p1, .int .i64 p2, .int .i64 p3, .int .i64 p4, .int .i64 p5, .int .i64 p6, .int .i64 p7, .int .i64 p8, .int .i64 p9]] W fun e w' => e = .returned (.agg #[.int .i64 p0, .int .i64 p1, .int .i64 p2, .int .i64 p3, .int .i64 p4, .int .i64 p5, .int .i64 p6, .int .i64 p7, .int .i64 p8, .int .i64 p9]) ∧ Below W.heap.size W w') := fun W => pof_ten 1 r l s p0 p1 p2 p3 p4 p5 p6 p7 p8 p9 W
  by_cases hrow : r < 16
  rotate_left
  · have HV := Lib.hid (not_row (l := l) (s := s) (p := [p0, p1, p2, p3, p4, p5, p6, p7, p8, p9]) (show 1 ≠ 0 by decide) hrow)
    have q : decide ((r : Int) < 16) = false := decide_eq_false (by omega)
    clear hrow hr
    go_enter Tryz.func92, Tryz.ntmps92
    go_wp2_with (first | (go_at_call 150; (with_reducible refine (HPF.out _).mono ?_); rintro e w1 ⟨he, hb1⟩; obtain rfl := he; obtain ⟨hk1, hb1', hs1⟩ := kept_ino hb1; obtain ⟨c0, c1, c2, c3, -⟩ := ino_cells hk1; have HB1 := Lib.hid hb1'; have HRD := Lib.hid (show Rd (w1.alloc (.cells #[.int .i64 p0, .int .i64 p1, .int .i64 p2, .int .i64 p3, .int .i64 p4, .int .i64 p5, .int .i64 p6, .int .i64 p7, .int .i64 p8, .int .i64 p9] 198)) (w1.heap.size + 1) (some ⟨w1.heap.size, 0, none⟩) (intsV [p0, p1, p2, p3, p4, p5, p6, p7, p8, p9]) from rd_ten w1 [p0, p1, p2, p3, p4, p5, p6, p7, p8, p9]); clear hb1 hb1' hk1))
    go_ret
    refine ⟨by rw [HV.out]; rfl, ?_⟩
    repeat (first | with_reducible exact HB1.out | with_reducible refine below_drewN ?_ _ | with_reducible refine Below.setCell ?_ ?_ _ | with_reducible refine Below.alloc ?_ ?_ _)
    all_goals (first | omega | (simp <;> omega))
  have q : decide ((r : Int) < 16) = true := decide_eq_true (by omega)
  cases hl : upB 65535 l
  · have HV := Lib.hid (not_l (r := r) (s := s) (p := [p0, p1, p2, p3, p4, p5, p6, p7, p8, p9]) (show 1 ≠ 0 by decide) hl)
    have HL := Lib.hid hl
    clear hl hrow hr
    go_enter Tryz.func92, Tryz.ntmps92
    go_wp2_with (first | (go_at_call 150; (with_reducible refine (HPF.out _).mono ?_); rintro e w1 ⟨he, hb1⟩; obtain rfl := he; obtain ⟨hk1, hb1', hs1⟩ := kept_ino hb1; obtain ⟨c0, c1, c2, c3, -⟩ := ino_cells hk1; have HB1 := Lib.hid hb1'; have HRD := Lib.hid (show Rd (w1.alloc (.cells #[.int .i64 p0, .int .i64 p1, .int .i64 p2, .int .i64 p3, .int .i64 p4, .int .i64 p5, .int .i64 p6, .int .i64 p7, .int .i64 p8, .int .i64 p9] 198)) (w1.heap.size + 1) (some ⟨w1.heap.size, 0, none⟩) (intsV [p0, p1, p2, p3, p4, p5, p6, p7, p8, p9]) from rd_ten w1 [p0, p1, p2, p3, p4, p5, p6, p7, p8, p9]); clear hb1 hb1' hk1) | (go_at_call 151; (with_reducible refine (up_any 65535 l _).mono ?_); rintro e w' ⟨he, hw'⟩; obtain rfl := he; obtain rfl := hw'; rw [HL.out]))
    go_ret
    refine ⟨by rw [HV.out]; rfl, ?_⟩
    repeat (first | with_reducible exact HB1.out | with_reducible refine below_drewN ?_ _ | with_reducible refine Below.setCell ?_ ?_ _ | with_reducible refine Below.alloc ?_ ?_ _)
    all_goals (first | omega | (simp <;> omega))
  cases hs : upB 3840 s
  · have HV := Lib.hid (not_s (r := r) (l := l) (p := [p0, p1, p2, p3, p4, p5, p6, p7, p8, p9]) (show 1 ≠ 0 by decide) hs)
    have HL := Lib.hid hl
    have HS := Lib.hid hs
    clear hl hs hrow hr
    go_enter Tryz.func92, Tryz.ntmps92
    go_wp2_with (first | (go_at_call 150; (with_reducible refine (HPF.out _).mono ?_); rintro e w1 ⟨he, hb1⟩; obtain rfl := he; obtain ⟨hk1, hb1', hs1⟩ := kept_ino hb1; obtain ⟨c0, c1, c2, c3, -⟩ := ino_cells hk1; have HB1 := Lib.hid hb1'; have HRD := Lib.hid (show Rd (w1.alloc (.cells #[.int .i64 p0, .int .i64 p1, .int .i64 p2, .int .i64 p3, .int .i64 p4, .int .i64 p5, .int .i64 p6, .int .i64 p7, .int .i64 p8, .int .i64 p9] 198)) (w1.heap.size + 1) (some ⟨w1.heap.size, 0, none⟩) (intsV [p0, p1, p2, p3, p4, p5, p6, p7, p8, p9]) from rd_ten w1 [p0, p1, p2, p3, p4, p5, p6, p7, p8, p9]); clear hb1 hb1' hk1) | (go_at_call 151; (with_reducible refine (up_any 65535 l _).mono ?_); rintro e w' ⟨he, hw'⟩; obtain rfl := he; obtain rfl := hw'; rw [HL.out]) | (go_at_call 151; (with_reducible refine (up_any 3840 s _).mono ?_); rintro e w' ⟨he, hw'⟩; obtain rfl := he; obtain rfl := hw'; rw [HS.out]))
    go_ret
    refine ⟨by rw [HV.out]; rfl, ?_⟩
    repeat (first | with_reducible exact HB1.out | with_reducible refine below_drewN ?_ _ | with_reducible refine Below.setCell ?_ ?_ _ | with_reducible refine Below.alloc ?_ ?_ _)
    all_goals (first | omega | (simp <;> omega))
  · have HV := Lib.hid (is_ptr (p := [p0, p1, p2, p3, p4, p5, p6, p7, p8, p9]) (show 1 = 1 ∨ 1 = 2 by decide) hrow hl hs)
    have HL := Lib.hid hl
    have HS := Lib.hid hs
    clear hl hs hrow hr
    go_enter Tryz.func92, Tryz.ntmps92
    go_wp2_with (first | (go_at_call 150; (with_reducible refine (HPF.out _).mono ?_); rintro e w1 ⟨he, hb1⟩; obtain rfl := he; obtain ⟨hk1, hb1', hs1⟩ := kept_ino hb1; obtain ⟨c0, c1, c2, c3, -⟩ := ino_cells hk1; have HB1 := Lib.hid hb1'; have HRD := Lib.hid (show Rd (w1.alloc (.cells #[.int .i64 p0, .int .i64 p1, .int .i64 p2, .int .i64 p3, .int .i64 p4, .int .i64 p5, .int .i64 p6, .int .i64 p7, .int .i64 p8, .int .i64 p9] 198)) (w1.heap.size + 1) (some ⟨w1.heap.size, 0, none⟩) (intsV [p0, p1, p2, p3, p4, p5, p6, p7, p8, p9]) from rd_ten w1 [p0, p1, p2, p3, p4, p5, p6, p7, p8, p9]); clear hb1 hb1' hk1) | (go_at_call 151; (with_reducible refine (up_any 65535 l _).mono ?_); rintro e w' ⟨he, hw'⟩; obtain rfl := he; obtain rfl := hw'; rw [HL.out]) | (go_at_call 151; (with_reducible refine (up_any 3840 s _).mono ?_); rintro e w' ⟨he, hw'⟩; obtain rfl := he; obtain rfl := hw'; rw [HS.out]) | (go_at_call 152; (with_reducible refine (ptrs_any [p0, p1, p2, p3, p4, p5, p6, p7, p8, p9] _ 10 10 _ _ rfl HRD.out (by omega)).mono ?_); rintro e w' ⟨he, hw'⟩; obtain rfl := he; obtain rfl := hw'; rw [← HV.out]))
    go_ret
    refine ⟨rfl, ?_⟩
    repeat (first | with_reducible exact HB1.out | with_reducible refine below_drewN ?_ _ | with_reducible refine Below.setCell ?_ ?_ _ | with_reducible refine Below.alloc ?_ ?_ _)
    all_goals (first | omega | (simp <;> omega))

set_option maxHeartbeats 1600000 in
set_option maxRecDepth 100000 in
theorem right_used2 (r : Nat) (l s p0 p1 p2 p3 p4 p5 p6 p7 p8 p9 : Int) (w : World) (hr : r < 256) :
    Calls Tryz.prog 92 #[.agg #[.int .u8 2, .int .u8 (r : Int), .int .i64 l, .int .i64 s, .int .i64 p0, .int .i64 p1, .int .i64 p2, .int .i64 p3, .int .i64 p4, .int .i64 p5, .int .i64 p6, .int .i64 p7, .int .i64 p8, .int .i64 p9]] w fun e w' => e = .returned (.bool (rightB (⟨2, r, l, s, [p0, p1, p2, p3, p4, p5, p6, p7, p8, p9]⟩ : Ino))) ∧ Below w.heap.size w w' := by
  have HPF : Hid (∀ W : World, Calls Tryz.prog 150 #[.agg #[.int .u8 2, .int .u8 (r : Int), .int .i64 l, .int .i64 s, .int .i64 p0, .int .i64 p1, .int .i64 p2, .int .i64 p3, .int .i64 p4, .int .i64 p5, .int .i64 p6, .int .i64 p7, .int .i64 p8, .int .i64 p9]] W fun e w' => e = .returned (.agg #[.int .i64 p0, .int .i64 p1, .int .i64 p2, .int .i64 p3, .int .i64 p4, .int .i64 p5, .int .i64 p6, .int .i64 p7, .int .i64 p8, .int .i64 p9]) ∧ Below W.heap.size W w') := fun W => pof_ten 2 r l s p0 p1 p2 p3 p4 p5 p6 p7 p8 p9 W
  by_cases hrow : r < 16
  rotate_left
  · have HV := Lib.hid (not_row (l := l) (s := s) (p := [p0, p1, p2, p3, p4, p5, p6, p7, p8, p9]) (show 2 ≠ 0 by decide) hrow)
    have q : decide ((r : Int) < 16) = false := decide_eq_false (by omega)
    clear hrow hr
    go_enter Tryz.func92, Tryz.ntmps92
    go_wp2_with (first | (go_at_call 150; (with_reducible refine (HPF.out _).mono ?_); rintro e w1 ⟨he, hb1⟩; obtain rfl := he; obtain ⟨hk1, hb1', hs1⟩ := kept_ino hb1; obtain ⟨c0, c1, c2, c3, -⟩ := ino_cells hk1; have HB1 := Lib.hid hb1'; have HRD := Lib.hid (show Rd (w1.alloc (.cells #[.int .i64 p0, .int .i64 p1, .int .i64 p2, .int .i64 p3, .int .i64 p4, .int .i64 p5, .int .i64 p6, .int .i64 p7, .int .i64 p8, .int .i64 p9] 198)) (w1.heap.size + 1) (some ⟨w1.heap.size, 0, none⟩) (intsV [p0, p1, p2, p3, p4, p5, p6, p7, p8, p9]) from rd_ten w1 [p0, p1, p2, p3, p4, p5, p6, p7, p8, p9]); clear hb1 hb1' hk1))
    go_ret
    refine ⟨by rw [HV.out]; rfl, ?_⟩
    repeat (first | with_reducible exact HB1.out | with_reducible refine below_drewN ?_ _ | with_reducible refine Below.setCell ?_ ?_ _ | with_reducible refine Below.alloc ?_ ?_ _)
    all_goals (first | omega | (simp <;> omega))
  have q : decide ((r : Int) < 16) = true := decide_eq_true (by omega)
  cases hl : upB 65535 l
  · have HV := Lib.hid (not_l (r := r) (s := s) (p := [p0, p1, p2, p3, p4, p5, p6, p7, p8, p9]) (show 2 ≠ 0 by decide) hl)
    have HL := Lib.hid hl
    clear hl hrow hr
    go_enter Tryz.func92, Tryz.ntmps92
    go_wp2_with (first | (go_at_call 150; (with_reducible refine (HPF.out _).mono ?_); rintro e w1 ⟨he, hb1⟩; obtain rfl := he; obtain ⟨hk1, hb1', hs1⟩ := kept_ino hb1; obtain ⟨c0, c1, c2, c3, -⟩ := ino_cells hk1; have HB1 := Lib.hid hb1'; have HRD := Lib.hid (show Rd (w1.alloc (.cells #[.int .i64 p0, .int .i64 p1, .int .i64 p2, .int .i64 p3, .int .i64 p4, .int .i64 p5, .int .i64 p6, .int .i64 p7, .int .i64 p8, .int .i64 p9] 198)) (w1.heap.size + 1) (some ⟨w1.heap.size, 0, none⟩) (intsV [p0, p1, p2, p3, p4, p5, p6, p7, p8, p9]) from rd_ten w1 [p0, p1, p2, p3, p4, p5, p6, p7, p8, p9]); clear hb1 hb1' hk1) | (go_at_call 151; (with_reducible refine (up_any 65535 l _).mono ?_); rintro e w' ⟨he, hw'⟩; obtain rfl := he; obtain rfl := hw'; rw [HL.out]))
    go_ret
    refine ⟨by rw [HV.out]; rfl, ?_⟩
    repeat (first | with_reducible exact HB1.out | with_reducible refine below_drewN ?_ _ | with_reducible refine Below.setCell ?_ ?_ _ | with_reducible refine Below.alloc ?_ ?_ _)
    all_goals (first | omega | (simp <;> omega))
  cases hs : upB 3840 s
  · have HV := Lib.hid (not_s (r := r) (l := l) (p := [p0, p1, p2, p3, p4, p5, p6, p7, p8, p9]) (show 2 ≠ 0 by decide) hs)
    have HL := Lib.hid hl
    have HS := Lib.hid hs
    clear hl hs hrow hr
    go_enter Tryz.func92, Tryz.ntmps92
    go_wp2_with (first | (go_at_call 150; (with_reducible refine (HPF.out _).mono ?_); rintro e w1 ⟨he, hb1⟩; obtain rfl := he; obtain ⟨hk1, hb1', hs1⟩ := kept_ino hb1; obtain ⟨c0, c1, c2, c3, -⟩ := ino_cells hk1; have HB1 := Lib.hid hb1'; have HRD := Lib.hid (show Rd (w1.alloc (.cells #[.int .i64 p0, .int .i64 p1, .int .i64 p2, .int .i64 p3, .int .i64 p4, .int .i64 p5, .int .i64 p6, .int .i64 p7, .int .i64 p8, .int .i64 p9] 198)) (w1.heap.size + 1) (some ⟨w1.heap.size, 0, none⟩) (intsV [p0, p1, p2, p3, p4, p5, p6, p7, p8, p9]) from rd_ten w1 [p0, p1, p2, p3, p4, p5, p6, p7, p8, p9]); clear hb1 hb1' hk1) | (go_at_call 151; (with_reducible refine (up_any 65535 l _).mono ?_); rintro e w' ⟨he, hw'⟩; obtain rfl := he; obtain rfl := hw'; rw [HL.out]) | (go_at_call 151; (with_reducible refine (up_any 3840 s _).mono ?_); rintro e w' ⟨he, hw'⟩; obtain rfl := he; obtain rfl := hw'; rw [HS.out]))
    go_ret
    refine ⟨by rw [HV.out]; rfl, ?_⟩
    repeat (first | with_reducible exact HB1.out | with_reducible refine below_drewN ?_ _ | with_reducible refine Below.setCell ?_ ?_ _ | with_reducible refine Below.alloc ?_ ?_ _)
    all_goals (first | omega | (simp <;> omega))
  · have HV := Lib.hid (is_ptr (p := [p0, p1, p2, p3, p4, p5, p6, p7, p8, p9]) (show 2 = 1 ∨ 2 = 2 by decide) hrow hl hs)
    have HL := Lib.hid hl
    have HS := Lib.hid hs
    clear hl hs hrow hr
    go_enter Tryz.func92, Tryz.ntmps92
    go_wp2_with (first | (go_at_call 150; (with_reducible refine (HPF.out _).mono ?_); rintro e w1 ⟨he, hb1⟩; obtain rfl := he; obtain ⟨hk1, hb1', hs1⟩ := kept_ino hb1; obtain ⟨c0, c1, c2, c3, -⟩ := ino_cells hk1; have HB1 := Lib.hid hb1'; have HRD := Lib.hid (show Rd (w1.alloc (.cells #[.int .i64 p0, .int .i64 p1, .int .i64 p2, .int .i64 p3, .int .i64 p4, .int .i64 p5, .int .i64 p6, .int .i64 p7, .int .i64 p8, .int .i64 p9] 198)) (w1.heap.size + 1) (some ⟨w1.heap.size, 0, none⟩) (intsV [p0, p1, p2, p3, p4, p5, p6, p7, p8, p9]) from rd_ten w1 [p0, p1, p2, p3, p4, p5, p6, p7, p8, p9]); clear hb1 hb1' hk1) | (go_at_call 151; (with_reducible refine (up_any 65535 l _).mono ?_); rintro e w' ⟨he, hw'⟩; obtain rfl := he; obtain rfl := hw'; rw [HL.out]) | (go_at_call 151; (with_reducible refine (up_any 3840 s _).mono ?_); rintro e w' ⟨he, hw'⟩; obtain rfl := he; obtain rfl := hw'; rw [HS.out]) | (go_at_call 152; (with_reducible refine (ptrs_any [p0, p1, p2, p3, p4, p5, p6, p7, p8, p9] _ 10 10 _ _ rfl HRD.out (by omega)).mono ?_); rintro e w' ⟨he, hw'⟩; obtain rfl := he; obtain rfl := hw'; rw [← HV.out]))
    go_ret
    refine ⟨rfl, ?_⟩
    repeat (first | with_reducible exact HB1.out | with_reducible refine below_drewN ?_ _ | with_reducible refine Below.setCell ?_ ?_ _ | with_reducible refine Below.alloc ?_ ?_ _)
    all_goals (first | omega | (simp <;> omega))

set_option maxHeartbeats 1600000 in
set_option maxRecDepth 100000 in
theorem right_ten (k r : Nat) (l s p0 p1 p2 p3 p4 p5 p6 p7 p8 p9 : Int) (w : World) (hk : k < 256) (hr : r < 256) :
    Calls Tryz.prog 92 #[.agg #[.int .u8 (k : Int), .int .u8 (r : Int), .int .i64 l, .int .i64 s, .int .i64 p0, .int .i64 p1, .int .i64 p2, .int .i64 p3, .int .i64 p4, .int .i64 p5, .int .i64 p6, .int .i64 p7, .int .i64 p8, .int .i64 p9]] w fun e w' => e = .returned (.bool (rightB (⟨k, r, l, s, [p0, p1, p2, p3, p4, p5, p6, p7, p8, p9]⟩ : Ino))) ∧ Below w.heap.size w w' := by
  by_cases h1 : k = 1
  · subst h1
    exact right_used1 r l s p0 p1 p2 p3 p4 p5 p6 p7 p8 p9 w hr
  by_cases h2 : k = 2
  · subst h2
    exact right_used2 r l s p0 p1 p2 p3 p4 p5 p6 p7 p8 p9 w hr
  by_cases h0 : k = 0
  · subst h0
    have hg := guard_at24
    have HV := Lib.hid (is_free (r := r) (l := l) (s := s) (p := [p0, p1, p2, p3, p4, p5, p6, p7, p8, p9]))
    have he : ∀ W, (binOp .eql 40 (.agg #[.int .u8 0, .int .u8 (r : Int), .int .i64 l, .int .i64 s, .int .i64 p0, .int .i64 p1, .int .i64 p2, .int .i64 p3, .int .i64 p4, .int .i64 p5, .int .i64 p6, .int .i64 p7, .int .i64 p8, .int .i64 p9]) (.agg #[.int .u8 0, .int .u8 0, .int .i64 0, .int .i64 0, .int .i64 0, .int .i64 0, .int .i64 0, .int .i64 0, .int .i64 0, .int .i64 0, .int .i64 0, .int .i64 0, .int .i64 0, .int .i64 0])).run Tryz.prog W = .ok (.bool (decB ((⟨0, r, l, s, [p0, p1, p2, p3, p4, p5, p6, p7, p8, p9]⟩ : Ino) = .z))) W := fun W => ino_eql W (⟨0, r, l, s, [p0, p1, p2, p3, p4, p5, p6, p7, p8, p9]⟩ : Ino) .z ⟨rfl, show 0 < 256 by decide, hr⟩ Oki.z
    rw [← HV.out] at he
    clear hk hr h1 h2
    show Calls Tryz.prog 92 #[.agg #[.int .u8 0, .int .u8 (r : Int), .int .i64 l, .int .i64 s, .int .i64 p0, .int .i64 p1, .int .i64 p2, .int .i64 p3, .int .i64 p4, .int .i64 p5, .int .i64 p6, .int .i64 p7, .int .i64 p8, .int .i64 p9]] w _
    generalize rightB (⟨0, r, l, s, [p0, p1, p2, p3, p4, p5, p6, p7, p8, p9]⟩ : Ino) = b at *
    go_enter Tryz.func92, Tryz.ntmps92
    go_wp2
    go_ret
    refine ⟨rfl, ?_⟩
    repeat (first | with_reducible exact Below.refl _ _ | with_reducible refine below_drewN ?_ _ | with_reducible refine Below.setCell ?_ ?_ _ | with_reducible refine Below.alloc ?_ ?_ _)
    all_goals (first | omega | (simp <;> omega))
  · have HV := Lib.hid (not_kind (r := r) (l := l) (s := s) (p := [p0, p1, p2, p3, p4, p5, p6, p7, p8, p9]) (show 2 < k by omega))
    have q0 : ((k : Int) == 0) = false := by simp; omega
    have q1 : ((k : Int) == 1) = false := by simp; omega
    have q2 : ((k : Int) == 2) = false := by simp; omega
    go_enter Tryz.func92, Tryz.ntmps92
    go_wp2
    go_ret
    refine ⟨by rw [HV.out]; rfl, ?_⟩
    repeat (first | with_reducible exact Below.refl _ _ | with_reducible refine below_drewN ?_ _ | with_reducible refine Below.setCell ?_ ?_ _ | with_reducible refine Below.alloc ?_ ?_ _)
    all_goals (first | omega | (simp <;> omega))
end Go.Proofs.YtcjkbmmjpkghlaaGreat.Inode

/-
  Whether an inode is valid: the document's Right.
-/
namespace Go.Proofs.YtcjkbmmjpkghlaaGreat.Inode
open Go.RowKit

theorem ten_all (p0 p1 p2 p3 p4 p5 p6 p7 p8 p9 : Int) : [p0, p1, p2, p3, p4, p5, p6, p7, p8, p9].all ptrB = ([p0, p1, p2, p3, p4, p5, p6, p7].all ptrB && (ptrB p8 && ptrB p9)) := by simp [Bool.and_assoc]
theorem dir_cell {W : World} {g : Nat} {k r l s : Value} {p0 p1 p2 p3 p4 p5 p6 p7 p8 p9 : Int} (h : Bk W g 40 [k, r, l, s, .int .i64 p0, .int .i64 p1, .int .i64 p2, .int .i64 p3, .int .i64 p4, .int .i64 p5, .int .i64 p6, .int .i64 p7, .int .i64 p8, .int .i64 p9]) : ∀ (j : Nat) (x : Int), [p0, p1, p2, p3, p4, p5, p6, p7][j]? = some x → W.cell? ⟨g, 4 + j, none⟩ = some (.int .i64 x) := by
  intro j x hx
  have hj : j < 8 := by
    have := (List.getElem?_eq_some_iff.1 hx).1
    simpa using this
  have e : (intsV [p0, p1, p2, p3, p4, p5, p6, p7])[j]? = some (.int .i64 x) := by simp only [intsV, List.getElem?_map, hx, Option.map_some]
  have e2 : intsV [p0, p1, p2, p3, p4, p5, p6, p7] = (([k, r, l, s, .int .i64 p0, .int .i64 p1, .int .i64 p2, .int .i64 p3, .int .i64 p4, .int .i64 p5, .int .i64 p6, .int .i64 p7, .int .i64 p8, .int .i64 p9] : List Value).drop 4).take 8 := rfl
  rw [e2, List.getElem?_take, if_pos hj, List.getElem?_drop] at e
  exact (h.cell (4 + j)).trans e

set_option maxHeartbeats 1600000 in
set_option maxRecDepth 100000 in
theorem rright_in0 (r : Nat) (l s p0 p1 p2 p3 p4 p5 p6 p7 p8 p9 : Int) (w : World) (hr : r < 16) (l0 : 0 ≤ l) (l1 : l ≤ 65535) (s0 : 0 ≤ s) (s1 : s ≤ 3840) (hv : rightB (⟨0, r, l, s, [p0, p1, p2, p3, p4, p5, p6, p7, p8, p9]⟩ : Ino) = [p0, p1, p2, p3, p4, p5, p6, p7, p8, p9].all ptrB) (he : ∀ W, (binOp .neq 40 (.agg #[.int .u8 0, .int .u8 (r : Int), .int .i64 l, .int .i64 s, .int .i64 p0, .int .i64 p1, .int .i64 p2, .int .i64 p3, .int .i64 p4, .int .i64 p5, .int .i64 p6, .int .i64 p7, .int .i64 p8, .int .i64 p9]) (.agg #[.int .u8 0, .int .u8 0, .int .i64 0, .int .i64 0, .int .i64 0, .int .i64 0, .int .i64 0, .int .i64 0, .int .i64 0, .int .i64 0, .int .i64 0, .int .i64 0, .int .i64 0, .int .i64 0])).run Tryz.prog W = .ok (.bool false) W) :
    Calls Tryz.prog 135 #[.agg #[.int .u8 0, .int .u8 (r : Int), .int .i64 l, .int .i64 s, .int .i64 p0, .int .i64 p1, .int .i64 p2, .int .i64 p3, .int .i64 p4, .int .i64 p5, .int .i64 p6, .int .i64 p7, .int .i64 p8, .int .i64 p9]] w fun e w' => e = .returned (.bool (rightB (⟨0, r, l, s, [p0, p1, p2, p3, p4, p5, p6, p7, p8, p9]⟩ : Ino))) ∧ Below w.heap.size w w' := by
  have hbk : Bk (w.alloc (.cells #[.int .u8 0, .int .u8 (r : Int), .int .i64 l, .int .i64 s, .int .i64 p0, .int .i64 p1, .int .i64 p2, .int .i64 p3, .int .i64 p4, .int .i64 p5, .int .i64 p6, .int .i64 p7, .int .i64 p8, .int .i64 p9] 40)) w.heap.size 40 [.int .u8 0, .int .u8 (r : Int), .int .i64 l, .int .i64 s, .int .i64 p0, .int .i64 p1, .int .i64 p2, .int .i64 p3, .int .i64 p4, .int .i64 p5, .int .i64 p6, .int .i64 p7, .int .i64 p8, .int .i64 p9] := Bk.new w 40 _
  have HD := Lib.hid (dir_cell hbk)
  have h12 := Lib.hid (hbk.cell 12)
  have h13 := Lib.hid (hbk.cell 13)
  have HB := Lib.hid (alloc_below w (.cells #[.int .u8 0, .int .u8 (r : Int), .int .i64 l, .int .i64 s, .int .i64 p0, .int .i64 p1, .int .i64 p2, .int .i64 p3, .int .i64 p4, .int .i64 p5, .int .i64 p6, .int .i64 p7, .int .i64 p8, .int .i64 p9] 40))
  have HS := Lib.hid hbk.lt
  rw [ten_all] at hv
  have HV := Lib.hid hv
  have q0 : decide ((r : Int) ≥ 16) = false := decide_eq_false (by omega)
  have q1 : decide (l < 0) = false := decide_eq_false (by omega)
  have q2 : decide (l > 65535) = false := decide_eq_false (by omega)
  have q3 : decide (s < 0) = false := decide_eq_false (by omega)
  have q4 : decide (s > 3840) = false := decide_eq_false (by omega)
  have q5 : r < 16 := hr
  have hg := guard_at24
  clear hbk hv
  generalize rightB (⟨0, r, l, s, [p0, p1, p2, p3, p4, p5, p6, p7, p8, p9]⟩ : Ino) = b at HV
  go_enter Tryz.func135, Tryz.ntmps135
  go_wp2
  generalize w.alloc (.cells #[.int .u8 0, .int .u8 (r : Int), .int .i64 l, .int .i64 s, .int .i64 p0, .int .i64 p1, .int .i64 p2, .int .i64 p3, .int .i64 p4, .int .i64 p5, .int .i64 p6, .int .i64 p7, .int .i64 p8, .int .i64 p9] 40) = W at *
  clear q0 q1 q2 q3 q4 he hg
  go_loop [3] (fun i => ∃ j : Nat, j ≤ 8 ∧ i = .int .i64 (j : Int) ∧ Hid (([p0, p1, p2, p3, p4, p5, p6, p7].take j).all ptrB = true)) (fun i => 8 - (intOf i).toNat)
  case atStart => exact ⟨0, Nat.zero_le _, rfl, Lib.hid rfl⟩
  case round =>
    obtain ⟨j, hj, rfl, hall⟩ := hrel
    by_cases hlt : j < 8
    · obtain ⟨x, hx⟩ : ∃ x, [p0, p1, p2, p3, p4, p5, p6, p7][j]? = some x := ⟨_, List.getElem?_eq_getElem (by simpa using hlt)⟩
      have c0 := HD.out j x hx
      have Hx := Lib.hid hx
      have hs := HS.out
      have hj0 : (0 : Int) ≤ (j : Int) := Int.natCast_nonneg _
      have hj8 : (j : Int) < 8 := by omega
      clear hx
      cases hp : ptrB x
      · have Hp := Lib.hid (all_bad Hx.out hp)
        have Hq := Lib.hid hp
        clear hp
        go_wp2_with (go_at_call 184; (with_reducible refine (ptr_any x _).mono ?_); rintro e w' ⟨he, hw'⟩; obtain rfl := he; obtain rfl := hw'; rw [Hq.out])
        go_ret
        exact ⟨by rw [HV.out, Hp.out]; rfl, HB.out⟩
      · have Hp := Lib.hid (all_step hall.out Hx.out hp)
        have Hq := Lib.hid hp
        clear hp
        go_wp2_with (go_at_call 184; (with_reducible refine (ptr_any x _).mono ?_); rintro e w' ⟨he, hw'⟩; obtain rfl := he; obtain rfl := hw'; rw [Hq.out])
        go_round
        case rel => exact ⟨j + 1, by omega, by go_num, Hp⟩
        case measure => simp [intOf]; omega
    · obtain rfl : j = 8 := by omega
      have e8 : [p0, p1, p2, p3, p4, p5, p6, p7].all ptrB = true := hall.out
      have c12 : W.cell? ⟨w.heap.size, 12, none⟩ = some (.int .i64 p8) := h12.out
      have c13 : W.cell? ⟨w.heap.size, 13, none⟩ = some (.int .i64 p9) := h13.out
      have HV2 := Lib.hid (show b = (ptrB p8 && ptrB p9) by rw [HV.out, e8]; rfl)
      have hs := HS.out
      clear e8
      cases h8 : ptrB p8
      · have H8 := Lib.hid h8
        clear h8
        go_wp2_with (go_at_call 184; (with_reducible refine (ptr_any p8 _).mono ?_); rintro e w' ⟨he, hw'⟩; obtain rfl := he; obtain rfl := hw'; rw [H8.out])
        go_ret
        exact ⟨by rw [HV2.out, H8.out]; rfl, HB.out⟩
      · have H8 := Lib.hid h8
        clear h8
        go_wp2_with (first | (go_at_call 184; (with_reducible refine (ptr_any p8 _).mono ?_); rintro e w' ⟨he, hw'⟩; obtain rfl := he; obtain rfl := hw'; rw [H8.out]) | (go_at_call 184; (with_reducible refine (ptr_any p9 _).mono ?_); rintro e w' ⟨he, hw'⟩; obtain rfl := he; obtain rfl := hw'))
        go_ret
        exact ⟨by rw [HV2.out, H8.out]; rfl, HB.out⟩

set_option maxHeartbeats 1600000 in
set_option maxRecDepth 100000 in
theorem rright_in1 (r : Nat) (l s p0 p1 p2 p3 p4 p5 p6 p7 p8 p9 : Int) (w : World) (hr : r < 16) (l0 : 0 ≤ l) (l1 : l ≤ 65535) (s0 : 0 ≤ s) (s1 : s ≤ 3840) (hv : rightB (⟨1, r, l, s, [p0, p1, p2, p3, p4, p5, p6, p7, p8, p9]⟩ : Ino) = [p0, p1, p2, p3, p4, p5, p6, p7, p8, p9].all ptrB) :
    Calls Tryz.prog 135 #[.agg #[.int .u8 1, .int .u8 (r : Int), .int .i64 l, .int .i64 s, .int .i64 p0, .int .i64 p1, .int .i64 p2, .int .i64 p3, .int .i64 p4, .int .i64 p5, .int .i64 p6, .int .i64 p7, .int .i64 p8, .int .i64 p9]] w fun e w' => e = .returned (.bool (rightB (⟨1, r, l, s, [p0, p1, p2, p3, p4, p5, p6, p7, p8, p9]⟩ : Ino))) ∧ Below w.heap.size w w' := by
  have hbk : Bk (w.alloc (.cells #[.int .u8 1, .int .u8 (r : Int), .int .i64 l, .int .i64 s, .int .i64 p0, .int .i64 p1, .int .i64 p2, .int .i64 p3, .int .i64 p4, .int .i64 p5, .int .i64 p6, .int .i64 p7, .int .i64 p8, .int .i64 p9] 40)) w.heap.size 40 [.int .u8 1, .int .u8 (r : Int), .int .i64 l, .int .i64 s, .int .i64 p0, .int .i64 p1, .int .i64 p2, .int .i64 p3, .int .i64 p4, .int .i64 p5, .int .i64 p6, .int .i64 p7, .int .i64 p8, .int .i64 p9] := Bk.new w 40 _
  have HD := Lib.hid (dir_cell hbk)
  have h12 := Lib.hid (hbk.cell 12)
  have h13 := Lib.hid (hbk.cell 13)
  have HB := Lib.hid (alloc_below w (.cells #[.int .u8 1, .int .u8 (r : Int), .int .i64 l, .int .i64 s, .int .i64 p0, .int .i64 p1, .int .i64 p2, .int .i64 p3, .int .i64 p4, .int .i64 p5, .int .i64 p6, .int .i64 p7, .int .i64 p8, .int .i64 p9] 40))
  have HS := Lib.hid hbk.lt
  rw [ten_all] at hv
  have HV := Lib.hid hv
  have q0 : decide ((r : Int) ≥ 16) = false := decide_eq_false (by omega)
  have q1 : decide (l < 0) = false := decide_eq_false (by omega)
  have q2 : decide (l > 65535) = false := decide_eq_false (by omega)
  have q3 : decide (s < 0) = false := decide_eq_false (by omega)
  have q4 : decide (s > 3840) = false := decide_eq_false (by omega)
  have q5 : r < 16 := hr

  clear hbk hv
  generalize rightB (⟨1, r, l, s, [p0, p1, p2, p3, p4, p5, p6, p7, p8, p9]⟩ : Ino) = b at HV
  go_enter Tryz.func135, Tryz.ntmps135
  go_wp2
  generalize w.alloc (.cells #[.int .u8 1, .int .u8 (r : Int), .int .i64 l, .int .i64 s, .int .i64 p0, .int .i64 p1, .int .i64 p2, .int .i64 p3, .int .i64 p4, .int .i64 p5, .int .i64 p6, .int .i64 p7, .int .i64 p8, .int .i64 p9] 40) = W at *
  clear q0 q1 q2 q3 q4 
  go_loop [3] (fun i => ∃ j : Nat, j ≤ 8 ∧ i = .int .i64 (j : Int) ∧ Hid (([p0, p1, p2, p3, p4, p5, p6, p7].take j).all ptrB = true)) (fun i => 8 - (intOf i).toNat)
  case atStart => exact ⟨0, Nat.zero_le _, rfl, Lib.hid rfl⟩
  case round =>
    obtain ⟨j, hj, rfl, hall⟩ := hrel
    by_cases hlt : j < 8
    · obtain ⟨x, hx⟩ : ∃ x, [p0, p1, p2, p3, p4, p5, p6, p7][j]? = some x := ⟨_, List.getElem?_eq_getElem (by simpa using hlt)⟩
      have c0 := HD.out j x hx
      have Hx := Lib.hid hx
      have hs := HS.out
      have hj0 : (0 : Int) ≤ (j : Int) := Int.natCast_nonneg _
      have hj8 : (j : Int) < 8 := by omega
      clear hx
      cases hp : ptrB x
      · have Hp := Lib.hid (all_bad Hx.out hp)
        have Hq := Lib.hid hp
        clear hp
        go_wp2_with (go_at_call 184; (with_reducible refine (ptr_any x _).mono ?_); rintro e w' ⟨he, hw'⟩; obtain rfl := he; obtain rfl := hw'; rw [Hq.out])
        go_ret
        exact ⟨by rw [HV.out, Hp.out]; rfl, HB.out⟩
      · have Hp := Lib.hid (all_step hall.out Hx.out hp)
        have Hq := Lib.hid hp
        clear hp
        go_wp2_with (go_at_call 184; (with_reducible refine (ptr_any x _).mono ?_); rintro e w' ⟨he, hw'⟩; obtain rfl := he; obtain rfl := hw'; rw [Hq.out])
        go_round
        case rel => exact ⟨j + 1, by omega, by go_num, Hp⟩
        case measure => simp [intOf]; omega
    · obtain rfl : j = 8 := by omega
      have e8 : [p0, p1, p2, p3, p4, p5, p6, p7].all ptrB = true := hall.out
      have c12 : W.cell? ⟨w.heap.size, 12, none⟩ = some (.int .i64 p8) := h12.out
      have c13 : W.cell? ⟨w.heap.size, 13, none⟩ = some (.int .i64 p9) := h13.out
      have HV2 := Lib.hid (show b = (ptrB p8 && ptrB p9) by rw [HV.out, e8]; rfl)
      have hs := HS.out
      clear e8
      cases h8 : ptrB p8
      · have H8 := Lib.hid h8
        clear h8
        go_wp2_with (go_at_call 184; (with_reducible refine (ptr_any p8 _).mono ?_); rintro e w' ⟨he, hw'⟩; obtain rfl := he; obtain rfl := hw'; rw [H8.out])
        go_ret
        exact ⟨by rw [HV2.out, H8.out]; rfl, HB.out⟩
      · have H8 := Lib.hid h8
        clear h8
        go_wp2_with (first | (go_at_call 184; (with_reducible refine (ptr_any p8 _).mono ?_); rintro e w' ⟨he, hw'⟩; obtain rfl := he; obtain rfl := hw'; rw [H8.out]) | (go_at_call 184; (with_reducible refine (ptr_any p9 _).mono ?_); rintro e w' ⟨he, hw'⟩; obtain rfl := he; obtain rfl := hw'))
        go_ret
        exact ⟨by rw [HV2.out, H8.out]; rfl, HB.out⟩

set_option maxHeartbeats 1600000 in
set_option maxRecDepth 100000 in
theorem rright_in2 (r : Nat) (l s p0 p1 p2 p3 p4 p5 p6 p7 p8 p9 : Int) (w : World) (hr : r < 16) (l0 : 0 ≤ l) (l1 : l ≤ 65535) (s0 : 0 ≤ s) (s1 : s ≤ 3840) (hv : rightB (⟨2, r, l, s, [p0, p1, p2, p3, p4, p5, p6, p7, p8, p9]⟩ : Ino) = [p0, p1, p2, p3, p4, p5, p6, p7, p8, p9].all ptrB) :
    Calls Tryz.prog 135 #[.agg #[.int .u8 2, .int .u8 (r : Int), .int .i64 l, .int .i64 s, .int .i64 p0, .int .i64 p1, .int .i64 p2, .int .i64 p3, .int .i64 p4, .int .i64 p5, .int .i64 p6, .int .i64 p7, .int .i64 p8, .int .i64 p9]] w fun e w' => e = .returned (.bool (rightB (⟨2, r, l, s, [p0, p1, p2, p3, p4, p5, p6, p7, p8, p9]⟩ : Ino))) ∧ Below w.heap.size w w' := by
  have hbk : Bk (w.alloc (.cells #[.int .u8 2, .int .u8 (r : Int), .int .i64 l, .int .i64 s, .int .i64 p0, .int .i64 p1, .int .i64 p2, .int .i64 p3, .int .i64 p4, .int .i64 p5, .int .i64 p6, .int .i64 p7, .int .i64 p8, .int .i64 p9] 40)) w.heap.size 40 [.int .u8 2, .int .u8 (r : Int), .int .i64 l, .int .i64 s, .int .i64 p0, .int .i64 p1, .int .i64 p2, .int .i64 p3, .int .i64 p4, .int .i64 p5, .int .i64 p6, .int .i64 p7, .int .i64 p8, .int .i64 p9] := Bk.new w 40 _
  have HD := Lib.hid (dir_cell hbk)
  have h12 := Lib.hid (hbk.cell 12)
  have h13 := Lib.hid (hbk.cell 13)
  have HB := Lib.hid (alloc_below w (.cells #[.int .u8 2, .int .u8 (r : Int), .int .i64 l, .int .i64 s, .int .i64 p0, .int .i64 p1, .int .i64 p2, .int .i64 p3, .int .i64 p4, .int .i64 p5, .int .i64 p6, .int .i64 p7, .int .i64 p8, .int .i64 p9] 40))
  have HS := Lib.hid hbk.lt
  rw [ten_all] at hv
  have HV := Lib.hid hv
  have q0 : decide ((r : Int) ≥ 16) = false := decide_eq_false (by omega)
  have q1 : decide (l < 0) = false := decide_eq_false (by omega)
  have q2 : decide (l > 65535) = false := decide_eq_false (by omega)
  have q3 : decide (s < 0) = false := decide_eq_false (by omega)
  have q4 : decide (s > 3840) = false := decide_eq_false (by omega)
  have q5 : r < 16 := hr

  clear hbk hv
  generalize rightB (⟨2, r, l, s, [p0, p1, p2, p3, p4, p5, p6, p7, p8, p9]⟩ : Ino) = b at HV
  go_enter Tryz.func135, Tryz.ntmps135
  go_wp2
  generalize w.alloc (.cells #[.int .u8 2, .int .u8 (r : Int), .int .i64 l, .int .i64 s, .int .i64 p0, .int .i64 p1, .int .i64 p2, .int .i64 p3, .int .i64 p4, .int .i64 p5, .int .i64 p6, .int .i64 p7, .int .i64 p8, .int .i64 p9] 40) = W at *
  clear q0 q1 q2 q3 q4 
  go_loop [3] (fun i => ∃ j : Nat, j ≤ 8 ∧ i = .int .i64 (j : Int) ∧ Hid (([p0, p1, p2, p3, p4, p5, p6, p7].take j).all ptrB = true)) (fun i => 8 - (intOf i).toNat)
  case atStart => exact ⟨0, Nat.zero_le _, rfl, Lib.hid rfl⟩
  case round =>
    obtain ⟨j, hj, rfl, hall⟩ := hrel
    by_cases hlt : j < 8
    · obtain ⟨x, hx⟩ : ∃ x, [p0, p1, p2, p3, p4, p5, p6, p7][j]? = some x := ⟨_, List.getElem?_eq_getElem (by simpa using hlt)⟩
      have c0 := HD.out j x hx
      have Hx := Lib.hid hx
      have hs := HS.out
      have hj0 : (0 : Int) ≤ (j : Int) := Int.natCast_nonneg _
      have hj8 : (j : Int) < 8 := by omega
      clear hx
      cases hp : ptrB x
      · have Hp := Lib.hid (all_bad Hx.out hp)
        have Hq := Lib.hid hp
        clear hp
        go_wp2_with (go_at_call 184; (with_reducible refine (ptr_any x _).mono ?_); rintro e w' ⟨he, hw'⟩; obtain rfl := he; obtain rfl := hw'; rw [Hq.out])
        go_ret
        exact ⟨by rw [HV.out, Hp.out]; rfl, HB.out⟩
      · have Hp := Lib.hid (all_step hall.out Hx.out hp)
        have Hq := Lib.hid hp
        clear hp
        go_wp2_with (go_at_call 184; (with_reducible refine (ptr_any x _).mono ?_); rintro e w' ⟨he, hw'⟩; obtain rfl := he; obtain rfl := hw'; rw [Hq.out])
        go_round
        case rel => exact ⟨j + 1, by omega, by go_num, Hp⟩
        case measure => simp [intOf]; omega
    · obtain rfl : j = 8 := by omega
      have e8 : [p0, p1, p2, p3, p4, p5, p6, p7].all ptrB = true := hall.out
      have c12 : W.cell? ⟨w.heap.size, 12, none⟩ = some (.int .i64 p8) := h12.out
      have c13 : W.cell? ⟨w.heap.size, 13, none⟩ = some (.int .i64 p9) := h13.out
      have HV2 := Lib.hid (show b = (ptrB p8 && ptrB p9) by rw [HV.out, e8]; rfl)
      have hs := HS.out
      clear e8
      cases h8 : ptrB p8
      · have H8 := Lib.hid h8
        clear h8
        go_wp2_with (go_at_call 184; (with_reducible refine (ptr_any p8 _).mono ?_); rintro e w' ⟨he, hw'⟩; obtain rfl := he; obtain rfl := hw'; rw [H8.out])
        go_ret
        exact ⟨by rw [HV2.out, H8.out]; rfl, HB.out⟩
      · have H8 := Lib.hid h8
        clear h8
        go_wp2_with (first | (go_at_call 184; (with_reducible refine (ptr_any p8 _).mono ?_); rintro e w' ⟨he, hw'⟩; obtain rfl := he; obtain rfl := hw'; rw [H8.out]) | (go_at_call 184; (with_reducible refine (ptr_any p9 _).mono ?_); rintro e w' ⟨he, hw'⟩; obtain rfl := he; obtain rfl := hw'))
        go_ret
        exact ⟨by rw [HV2.out, H8.out]; rfl, HB.out⟩

set_option maxHeartbeats 800000 in
set_option maxRecDepth 100000 in
theorem rright_row1 (r : Nat) (l s p0 p1 p2 p3 p4 p5 p6 p7 p8 p9 : Int) (w : World) (h : ¬ r < 16) :
    Calls Tryz.prog 135 #[.agg #[.int .u8 1, .int .u8 (r : Int), .int .i64 l, .int .i64 s, .int .i64 p0, .int .i64 p1, .int .i64 p2, .int .i64 p3, .int .i64 p4, .int .i64 p5, .int .i64 p6, .int .i64 p7, .int .i64 p8, .int .i64 p9]] w fun e w' => e = .returned (.bool (rightB (⟨1, r, l, s, [p0, p1, p2, p3, p4, p5, p6, p7, p8, p9]⟩ : Ino))) ∧ Below w.heap.size w w' := by
  have HV := Lib.hid (not_row (l := l) (s := s) (p := [p0, p1, p2, p3, p4, p5, p6, p7, p8, p9]) (show 1 ≠ 0 by decide) h)
  have q0 : decide ((r : Int) ≥ 16) = true := decide_eq_true (by omega)
  go_enter Tryz.func135, Tryz.ntmps135
  go_wp2
  go_ret
  · refine ⟨by rw [HV.out]; rfl, ?_⟩
    repeat (first | with_reducible exact Below.refl _ _ | with_reducible refine below_drewN ?_ _ | with_reducible refine Below.setCell ?_ ?_ _ | with_reducible refine Below.alloc ?_ ?_ _)
    all_goals (first | omega | (simp <;> omega))

set_option maxHeartbeats 800000 in
set_option maxRecDepth 100000 in
theorem rright_l01 (r : Nat) (l s p0 p1 p2 p3 p4 p5 p6 p7 p8 p9 : Int) (w : World) (hr : r < 16) (h : l < 0) :
    Calls Tryz.prog 135 #[.agg #[.int .u8 1, .int .u8 (r : Int), .int .i64 l, .int .i64 s, .int .i64 p0, .int .i64 p1, .int .i64 p2, .int .i64 p3, .int .i64 p4, .int .i64 p5, .int .i64 p6, .int .i64 p7, .int .i64 p8, .int .i64 p9]] w fun e w' => e = .returned (.bool (rightB (⟨1, r, l, s, [p0, p1, p2, p3, p4, p5, p6, p7, p8, p9]⟩ : Ino))) ∧ Below w.heap.size w w' := by
  have HV := Lib.hid (not_l (r := r) (l := l) (s := s) (p := [p0, p1, p2, p3, p4, p5, p6, p7, p8, p9]) (show 1 ≠ 0 by decide) (by simp [upB]; omega))
  have q0 : decide ((r : Int) ≥ 16) = false := decide_eq_false (by omega)
  have q1 : decide (l < 0) = true := decide_eq_true h
  go_enter Tryz.func135, Tryz.ntmps135
  go_wp2
  go_ret
  · refine ⟨by rw [HV.out]; rfl, ?_⟩
    repeat (first | with_reducible exact Below.refl _ _ | with_reducible refine below_drewN ?_ _ | with_reducible refine Below.setCell ?_ ?_ _ | with_reducible refine Below.alloc ?_ ?_ _)
    all_goals (first | omega | (simp <;> omega))

set_option maxHeartbeats 800000 in
set_option maxRecDepth 100000 in
theorem rright_l11 (r : Nat) (l s p0 p1 p2 p3 p4 p5 p6 p7 p8 p9 : Int) (w : World) (hr : r < 16) (_ : 0 ≤ l) (h : 65535 < l) :
    Calls Tryz.prog 135 #[.agg #[.int .u8 1, .int .u8 (r : Int), .int .i64 l, .int .i64 s, .int .i64 p0, .int .i64 p1, .int .i64 p2, .int .i64 p3, .int .i64 p4, .int .i64 p5, .int .i64 p6, .int .i64 p7, .int .i64 p8, .int .i64 p9]] w fun e w' => e = .returned (.bool (rightB (⟨1, r, l, s, [p0, p1, p2, p3, p4, p5, p6, p7, p8, p9]⟩ : Ino))) ∧ Below w.heap.size w w' := by
  have HV := Lib.hid (not_l (r := r) (l := l) (s := s) (p := [p0, p1, p2, p3, p4, p5, p6, p7, p8, p9]) (show 1 ≠ 0 by decide) (by simp [upB]; omega))
  have q0 : decide ((r : Int) ≥ 16) = false := decide_eq_false (by omega)
  have q1 : decide (l < 0) = false := decide_eq_false (by omega)
  have q2 : decide (l > 65535) = true := decide_eq_true h
  go_enter Tryz.func135, Tryz.ntmps135
  go_wp2
  go_ret
  · refine ⟨by rw [HV.out]; rfl, ?_⟩
    repeat (first | with_reducible exact Below.refl _ _ | with_reducible refine below_drewN ?_ _ | with_reducible refine Below.setCell ?_ ?_ _ | with_reducible refine Below.alloc ?_ ?_ _)
    all_goals (first | omega | (simp <;> omega))

set_option maxHeartbeats 800000 in
set_option maxRecDepth 100000 in
theorem rright_s01 (r : Nat) (l s p0 p1 p2 p3 p4 p5 p6 p7 p8 p9 : Int) (w : World) (hr : r < 16) (h0 : 0 ≤ l) (h1 : l ≤ 65535) (h : s < 0) :
    Calls Tryz.prog 135 #[.agg #[.int .u8 1, .int .u8 (r : Int), .int .i64 l, .int .i64 s, .int .i64 p0, .int .i64 p1, .int .i64 p2, .int .i64 p3, .int .i64 p4, .int .i64 p5, .int .i64 p6, .int .i64 p7, .int .i64 p8, .int .i64 p9]] w fun e w' => e = .returned (.bool (rightB (⟨1, r, l, s, [p0, p1, p2, p3, p4, p5, p6, p7, p8, p9]⟩ : Ino))) ∧ Below w.heap.size w w' := by
  have HV := Lib.hid (not_s (r := r) (l := l) (s := s) (p := [p0, p1, p2, p3, p4, p5, p6, p7, p8, p9]) (show 1 ≠ 0 by decide) (by simp [upB]; omega))
  have q0 : decide ((r : Int) ≥ 16) = false := decide_eq_false (by omega)
  have q1 : decide (l < 0) = false := decide_eq_false (by omega)
  have q2 : decide (l > 65535) = false := decide_eq_false (by omega)
  have q3 : decide (s < 0) = true := decide_eq_true h
  go_enter Tryz.func135, Tryz.ntmps135
  go_wp2
  go_ret
  · refine ⟨by rw [HV.out]; rfl, ?_⟩
    repeat (first | with_reducible exact Below.refl _ _ | with_reducible refine below_drewN ?_ _ | with_reducible refine Below.setCell ?_ ?_ _ | with_reducible refine Below.alloc ?_ ?_ _)
    all_goals (first | omega | (simp <;> omega))

set_option maxHeartbeats 800000 in
set_option maxRecDepth 100000 in
theorem rright_s11 (r : Nat) (l s p0 p1 p2 p3 p4 p5 p6 p7 p8 p9 : Int) (w : World) (hr : r < 16) (h0 : 0 ≤ l) (h1 : l ≤ 65535) (_ : 0 ≤ s) (h : 3840 < s) :
    Calls Tryz.prog 135 #[.agg #[.int .u8 1, .int .u8 (r : Int), .int .i64 l, .int .i64 s, .int .i64 p0, .int .i64 p1, .int .i64 p2, .int .i64 p3, .int .i64 p4, .int .i64 p5, .int .i64 p6, .int .i64 p7, .int .i64 p8, .int .i64 p9]] w fun e w' => e = .returned (.bool (rightB (⟨1, r, l, s, [p0, p1, p2, p3, p4, p5, p6, p7, p8, p9]⟩ : Ino))) ∧ Below w.heap.size w w' := by
  have HV := Lib.hid (not_s (r := r) (l := l) (s := s) (p := [p0, p1, p2, p3, p4, p5, p6, p7, p8, p9]) (show 1 ≠ 0 by decide) (by simp [upB]; omega))
  have q0 : decide ((r : Int) ≥ 16) = false := decide_eq_false (by omega)
  have q1 : decide (l < 0) = false := decide_eq_false (by omega)
  have q2 : decide (l > 65535) = false := decide_eq_false (by omega)
  have q3 : decide (s < 0) = false := decide_eq_false (by omega)
  have q4 : decide (s > 3840) = true := decide_eq_true h
  go_enter Tryz.func135, Tryz.ntmps135
  go_wp2
  go_ret
  · refine ⟨by rw [HV.out]; rfl, ?_⟩
    repeat (first | with_reducible exact Below.refl _ _ | with_reducible refine below_drewN ?_ _ | with_reducible refine Below.setCell ?_ ?_ _ | with_reducible refine Below.alloc ?_ ?_ _)
    all_goals (first | omega | (simp <;> omega))

set_option maxHeartbeats 800000 in
set_option maxRecDepth 100000 in
theorem rright_row2 (r : Nat) (l s p0 p1 p2 p3 p4 p5 p6 p7 p8 p9 : Int) (w : World) (h : ¬ r < 16) :
    Calls Tryz.prog 135 #[.agg #[.int .u8 2, .int .u8 (r : Int), .int .i64 l, .int .i64 s, .int .i64 p0, .int .i64 p1, .int .i64 p2, .int .i64 p3, .int .i64 p4, .int .i64 p5, .int .i64 p6, .int .i64 p7, .int .i64 p8, .int .i64 p9]] w fun e w' => e = .returned (.bool (rightB (⟨2, r, l, s, [p0, p1, p2, p3, p4, p5, p6, p7, p8, p9]⟩ : Ino))) ∧ Below w.heap.size w w' := by
  have HV := Lib.hid (not_row (l := l) (s := s) (p := [p0, p1, p2, p3, p4, p5, p6, p7, p8, p9]) (show 2 ≠ 0 by decide) h)
  have q0 : decide ((r : Int) ≥ 16) = true := decide_eq_true (by omega)
  go_enter Tryz.func135, Tryz.ntmps135
  go_wp2
  go_ret
  · refine ⟨by rw [HV.out]; rfl, ?_⟩
    repeat (first | with_reducible exact Below.refl _ _ | with_reducible refine below_drewN ?_ _ | with_reducible refine Below.setCell ?_ ?_ _ | with_reducible refine Below.alloc ?_ ?_ _)
    all_goals (first | omega | (simp <;> omega))

set_option maxHeartbeats 800000 in
set_option maxRecDepth 100000 in
theorem rright_l02 (r : Nat) (l s p0 p1 p2 p3 p4 p5 p6 p7 p8 p9 : Int) (w : World) (hr : r < 16) (h : l < 0) :
    Calls Tryz.prog 135 #[.agg #[.int .u8 2, .int .u8 (r : Int), .int .i64 l, .int .i64 s, .int .i64 p0, .int .i64 p1, .int .i64 p2, .int .i64 p3, .int .i64 p4, .int .i64 p5, .int .i64 p6, .int .i64 p7, .int .i64 p8, .int .i64 p9]] w fun e w' => e = .returned (.bool (rightB (⟨2, r, l, s, [p0, p1, p2, p3, p4, p5, p6, p7, p8, p9]⟩ : Ino))) ∧ Below w.heap.size w w' := by
  have HV := Lib.hid (not_l (r := r) (l := l) (s := s) (p := [p0, p1, p2, p3, p4, p5, p6, p7, p8, p9]) (show 2 ≠ 0 by decide) (by simp [upB]; omega))
  have q0 : decide ((r : Int) ≥ 16) = false := decide_eq_false (by omega)
  have q1 : decide (l < 0) = true := decide_eq_true h
  go_enter Tryz.func135, Tryz.ntmps135
  go_wp2
  go_ret
  · refine ⟨by rw [HV.out]; rfl, ?_⟩
    repeat (first | with_reducible exact Below.refl _ _ | with_reducible refine below_drewN ?_ _ | with_reducible refine Below.setCell ?_ ?_ _ | with_reducible refine Below.alloc ?_ ?_ _)
    all_goals (first | omega | (simp <;> omega))

set_option maxHeartbeats 800000 in
set_option maxRecDepth 100000 in
theorem rright_l12 (r : Nat) (l s p0 p1 p2 p3 p4 p5 p6 p7 p8 p9 : Int) (w : World) (hr : r < 16) (_ : 0 ≤ l) (h : 65535 < l) :
    Calls Tryz.prog 135 #[.agg #[.int .u8 2, .int .u8 (r : Int), .int .i64 l, .int .i64 s, .int .i64 p0, .int .i64 p1, .int .i64 p2, .int .i64 p3, .int .i64 p4, .int .i64 p5, .int .i64 p6, .int .i64 p7, .int .i64 p8, .int .i64 p9]] w fun e w' => e = .returned (.bool (rightB (⟨2, r, l, s, [p0, p1, p2, p3, p4, p5, p6, p7, p8, p9]⟩ : Ino))) ∧ Below w.heap.size w w' := by
  have HV := Lib.hid (not_l (r := r) (l := l) (s := s) (p := [p0, p1, p2, p3, p4, p5, p6, p7, p8, p9]) (show 2 ≠ 0 by decide) (by simp [upB]; omega))
  have q0 : decide ((r : Int) ≥ 16) = false := decide_eq_false (by omega)
  have q1 : decide (l < 0) = false := decide_eq_false (by omega)
  have q2 : decide (l > 65535) = true := decide_eq_true h
  go_enter Tryz.func135, Tryz.ntmps135
  go_wp2
  go_ret
  · refine ⟨by rw [HV.out]; rfl, ?_⟩
    repeat (first | with_reducible exact Below.refl _ _ | with_reducible refine below_drewN ?_ _ | with_reducible refine Below.setCell ?_ ?_ _ | with_reducible refine Below.alloc ?_ ?_ _)
    all_goals (first | omega | (simp <;> omega))

set_option maxHeartbeats 800000 in
set_option maxRecDepth 100000 in
theorem rright_s02 (r : Nat) (l s p0 p1 p2 p3 p4 p5 p6 p7 p8 p9 : Int) (w : World) (hr : r < 16) (h0 : 0 ≤ l) (h1 : l ≤ 65535) (h : s < 0) :
    Calls Tryz.prog 135 #[.agg #[.int .u8 2, .int .u8 (r : Int), .int .i64 l, .int .i64 s, .int .i64 p0, .int .i64 p1, .int .i64 p2, .int .i64 p3, .int .i64 p4, .int .i64 p5, .int .i64 p6, .int .i64 p7, .int .i64 p8, .int .i64 p9]] w fun e w' => e = .returned (.bool (rightB (⟨2, r, l, s, [p0, p1, p2, p3, p4, p5, p6, p7, p8, p9]⟩ : Ino))) ∧ Below w.heap.size w w' := by
  have HV := Lib.hid (not_s (r := r) (l := l) (s := s) (p := [p0, p1, p2, p3, p4, p5, p6, p7, p8, p9]) (show 2 ≠ 0 by decide) (by simp [upB]; omega))
  have q0 : decide ((r : Int) ≥ 16) = false := decide_eq_false (by omega)
  have q1 : decide (l < 0) = false := decide_eq_false (by omega)
  have q2 : decide (l > 65535) = false := decide_eq_false (by omega)
  have q3 : decide (s < 0) = true := decide_eq_true h
  go_enter Tryz.func135, Tryz.ntmps135
  go_wp2
  go_ret
  · refine ⟨by rw [HV.out]; rfl, ?_⟩
    repeat (first | with_reducible exact Below.refl _ _ | with_reducible refine below_drewN ?_ _ | with_reducible refine Below.setCell ?_ ?_ _ | with_reducible refine Below.alloc ?_ ?_ _)
    all_goals (first | omega | (simp <;> omega))

set_option maxHeartbeats 800000 in
set_option maxRecDepth 100000 in
theorem rright_s12 (r : Nat) (l s p0 p1 p2 p3 p4 p5 p6 p7 p8 p9 : Int) (w : World) (hr : r < 16) (h0 : 0 ≤ l) (h1 : l ≤ 65535) (_ : 0 ≤ s) (h : 3840 < s) :
    Calls Tryz.prog 135 #[.agg #[.int .u8 2, .int .u8 (r : Int), .int .i64 l, .int .i64 s, .int .i64 p0, .int .i64 p1, .int .i64 p2, .int .i64 p3, .int .i64 p4, .int .i64 p5, .int .i64 p6, .int .i64 p7, .int .i64 p8, .int .i64 p9]] w fun e w' => e = .returned (.bool (rightB (⟨2, r, l, s, [p0, p1, p2, p3, p4, p5, p6, p7, p8, p9]⟩ : Ino))) ∧ Below w.heap.size w w' := by
  have HV := Lib.hid (not_s (r := r) (l := l) (s := s) (p := [p0, p1, p2, p3, p4, p5, p6, p7, p8, p9]) (show 2 ≠ 0 by decide) (by simp [upB]; omega))
  have q0 : decide ((r : Int) ≥ 16) = false := decide_eq_false (by omega)
  have q1 : decide (l < 0) = false := decide_eq_false (by omega)
  have q2 : decide (l > 65535) = false := decide_eq_false (by omega)
  have q3 : decide (s < 0) = false := decide_eq_false (by omega)
  have q4 : decide (s > 3840) = true := decide_eq_true h
  go_enter Tryz.func135, Tryz.ntmps135
  go_wp2
  go_ret
  · refine ⟨by rw [HV.out]; rfl, ?_⟩
    repeat (first | with_reducible exact Below.refl _ _ | with_reducible refine below_drewN ?_ _ | with_reducible refine Below.setCell ?_ ?_ _ | with_reducible refine Below.alloc ?_ ?_ _)
    all_goals (first | omega | (simp <;> omega))

set_option maxHeartbeats 800000 in
set_option maxRecDepth 100000 in
theorem rright_free0 (r : Nat) (l s p0 p1 p2 p3 p4 p5 p6 p7 p8 p9 : Int) (w : World) (he : ∀ W, (binOp .neq 40 (.agg #[.int .u8 0, .int .u8 (r : Int), .int .i64 l, .int .i64 s, .int .i64 p0, .int .i64 p1, .int .i64 p2, .int .i64 p3, .int .i64 p4, .int .i64 p5, .int .i64 p6, .int .i64 p7, .int .i64 p8, .int .i64 p9]) (.agg #[.int .u8 0, .int .u8 0, .int .i64 0, .int .i64 0, .int .i64 0, .int .i64 0, .int .i64 0, .int .i64 0, .int .i64 0, .int .i64 0, .int .i64 0, .int .i64 0, .int .i64 0, .int .i64 0])).run Tryz.prog W = .ok (.bool true) W) (hv : rightB (⟨0, r, l, s, [p0, p1, p2, p3, p4, p5, p6, p7, p8, p9]⟩ : Ino) = false) :
    Calls Tryz.prog 135 #[.agg #[.int .u8 0, .int .u8 (r : Int), .int .i64 l, .int .i64 s, .int .i64 p0, .int .i64 p1, .int .i64 p2, .int .i64 p3, .int .i64 p4, .int .i64 p5, .int .i64 p6, .int .i64 p7, .int .i64 p8, .int .i64 p9]] w fun e w' => e = .returned (.bool (rightB (⟨0, r, l, s, [p0, p1, p2, p3, p4, p5, p6, p7, p8, p9]⟩ : Ino))) ∧ Below w.heap.size w w' := by
  have HV := Lib.hid (hv)
  have hg : ∀ (x y : Operand) (xs ys : Array Value) (op : BinOp) (W : World), (eqGuard op 40 x y (.agg xs) (.agg ys)).run Tryz.prog W = .ok () W := fun x y xs ys op W => guard_at24 W x y xs ys op
  go_enter Tryz.func135, Tryz.ntmps135
  go_wp2
  go_ret
  · refine ⟨by rw [HV.out]; rfl, ?_⟩
    repeat (first | with_reducible exact Below.refl _ _ | with_reducible refine below_drewN ?_ _ | with_reducible refine Below.setCell ?_ ?_ _ | with_reducible refine Below.alloc ?_ ?_ _)
    all_goals (first | omega | (simp <;> omega))

set_option maxHeartbeats 800000 in
set_option maxRecDepth 100000 in
theorem rright_kindk (r : Nat) (l s p0 p1 p2 p3 p4 p5 p6 p7 p8 p9 : Int) (w : World) (k : Nat) (h : 2 < k) :
    Calls Tryz.prog 135 #[.agg #[.int .u8 (k : Int), .int .u8 (r : Int), .int .i64 l, .int .i64 s, .int .i64 p0, .int .i64 p1, .int .i64 p2, .int .i64 p3, .int .i64 p4, .int .i64 p5, .int .i64 p6, .int .i64 p7, .int .i64 p8, .int .i64 p9]] w fun e w' => e = .returned (.bool (rightB (⟨k, r, l, s, [p0, p1, p2, p3, p4, p5, p6, p7, p8, p9]⟩ : Ino))) ∧ Below w.heap.size w w' := by
  have HV := Lib.hid (not_kind (r := r) (l := l) (s := s) (p := [p0, p1, p2, p3, p4, p5, p6, p7, p8, p9]) h)
  have q0 : decide ((k : Int) > 2) = true := decide_eq_true (by omega)
  go_enter Tryz.func135, Tryz.ntmps135
  go_wp2
  go_ret
  · refine ⟨by rw [HV.out]; rfl, ?_⟩
    repeat (first | with_reducible exact Below.refl _ _ | with_reducible refine below_drewN ?_ _ | with_reducible refine Below.setCell ?_ ?_ _ | with_reducible refine Below.alloc ?_ ?_ _)
    all_goals (first | omega | (simp <;> omega))

theorem rright_ten (k r : Nat) (l s p0 p1 p2 p3 p4 p5 p6 p7 p8 p9 : Int) (w : World) (hr : r < 256) :
    Calls Tryz.prog 135 #[.agg #[.int .u8 (k : Int), .int .u8 (r : Int), .int .i64 l, .int .i64 s, .int .i64 p0, .int .i64 p1, .int .i64 p2, .int .i64 p3, .int .i64 p4, .int .i64 p5, .int .i64 p6, .int .i64 p7, .int .i64 p8, .int .i64 p9]] w fun e w' => e = .returned (.bool (rightB (⟨k, r, l, s, [p0, p1, p2, p3, p4, p5, p6, p7, p8, p9]⟩ : Ino))) ∧ Below w.heap.size w w' := by
  by_cases h2 : 2 < k
  · exact rright_kindk r l s p0 p1 p2 p3 p4 p5 p6 p7 p8 p9 w k h2
  by_cases h0 : k = 0
  · subst h0
    have hz : ∀ W, (binOp .neq 40 (.agg #[.int .u8 0, .int .u8 (r : Int), .int .i64 l, .int .i64 s, .int .i64 p0, .int .i64 p1, .int .i64 p2, .int .i64 p3, .int .i64 p4, .int .i64 p5, .int .i64 p6, .int .i64 p7, .int .i64 p8, .int .i64 p9]) (.agg #[.int .u8 0, .int .u8 0, .int .i64 0, .int .i64 0, .int .i64 0, .int .i64 0, .int .i64 0, .int .i64 0, .int .i64 0, .int .i64 0, .int .i64 0, .int .i64 0, .int .i64 0, .int .i64 0])).run Tryz.prog W = .ok (.bool (!decB ((⟨0, r, l, s, [p0, p1, p2, p3, p4, p5, p6, p7, p8, p9]⟩ : Ino) = .z))) W := fun W => ino_neq W (⟨0, r, l, s, [p0, p1, p2, p3, p4, p5, p6, p7, p8, p9]⟩ : Ino) .z ⟨rfl, show 0 < 256 by decide, hr⟩ Oki.z
    by_cases h : (⟨0, r, l, s, [p0, p1, p2, p3, p4, p5, p6, p7, p8, p9]⟩ : Ino) = .z
    · rw [decB_yes h] at hz
      have hv : rightB (⟨0, r, l, s, [p0, p1, p2, p3, p4, p5, p6, p7, p8, p9]⟩ : Ino) = [p0, p1, p2, p3, p4, p5, p6, p7, p8, p9].all ptrB := by
        rw [rightB_yes (.inl h)]
        have e : [p0, p1, p2, p3, p4, p5, p6, p7, p8, p9] = [0, 0, 0, 0, 0, 0, 0, 0, 0, 0] := congrArg Ino.p h
        rw [e]
        rfl
      have e1 : r = 0 := congrArg Ino.r h
      have e2 : l = 0 := congrArg Ino.l h
      have e3 : s = 0 := congrArg Ino.s h
      exact rright_in0 r l s p0 p1 p2 p3 p4 p5 p6 p7 p8 p9 w (by omega) (by omega) (by omega) (by omega) (by omega) hv hz
    · rw [decB_no h] at hz
      exact rright_free0 r l s p0 p1 p2 p3 p4 p5 p6 p7 p8 p9 w hz (by rw [is_free]; exact decB_no h)
  have hk : k = 1 ∨ k = 2 := by omega
  by_cases hrow : r < 16
  rotate_left
  · rcases hk with rfl | rfl
    · exact rright_row1 r l s p0 p1 p2 p3 p4 p5 p6 p7 p8 p9 w hrow
    · exact rright_row2 r l s p0 p1 p2 p3 p4 p5 p6 p7 p8 p9 w hrow
  by_cases l0 : 0 ≤ l
  rotate_left
  · rcases hk with rfl | rfl
    · exact rright_l01 r l s p0 p1 p2 p3 p4 p5 p6 p7 p8 p9 w hrow (by omega)
    · exact rright_l02 r l s p0 p1 p2 p3 p4 p5 p6 p7 p8 p9 w hrow (by omega)
  by_cases l1 : l ≤ 65535
  rotate_left
  · rcases hk with rfl | rfl
    · exact rright_l11 r l s p0 p1 p2 p3 p4 p5 p6 p7 p8 p9 w hrow l0 (by omega)
    · exact rright_l12 r l s p0 p1 p2 p3 p4 p5 p6 p7 p8 p9 w hrow l0 (by omega)
  by_cases s0 : 0 ≤ s
  rotate_left
  · rcases hk with rfl | rfl
    · exact rright_s01 r l s p0 p1 p2 p3 p4 p5 p6 p7 p8 p9 w hrow l0 l1 (by omega)
    · exact rright_s02 r l s p0 p1 p2 p3 p4 p5 p6 p7 p8 p9 w hrow l0 l1 (by omega)
  by_cases s1 : s ≤ 3840
  rotate_left
  · rcases hk with rfl | rfl
    · exact rright_s11 r l s p0 p1 p2 p3 p4 p5 p6 p7 p8 p9 w hrow l0 l1 s0 (by omega)
    · exact rright_s12 r l s p0 p1 p2 p3 p4 p5 p6 p7 p8 p9 w hrow l0 l1 s0 (by omega)
  have hv := is_ptr (p := [p0, p1, p2, p3, p4, p5, p6, p7, p8, p9]) hk hrow (upB_iff.2 ⟨l0, l1⟩) (upB_iff.2 ⟨s0, s1⟩)
  rcases hk with rfl | rfl
  · exact rright_in1 r l s p0 p1 p2 p3 p4 p5 p6 p7 p8 p9 w hrow l0 l1 s0 s1 hv
  · exact rright_in2 r l s p0 p1 p2 p3 p4 p5 p6 p7 p8 p9 w hrow l0 l1 s0 s1 hv

/-- Right, and the document's. -/
theorem right_any (n : Ino) (ho : Oki n) (w : World) : Calls Tryz.prog 92 #[inoV n] w fun e w' => e = .returned (.bool (rightB n)) ∧ Below w.heap.size w w' := by
  obtain ⟨k, r, l, s, p⟩ := n
  obtain ⟨p0, p1, p2, p3, p4, p5, p6, p7, p8, p9, hp⟩ := ten_of ho.len
  simp only at hp
  subst hp
  exact right_ten k r l s p0 p1 p2 p3 p4 p5 p6 p7 p8 p9 w ho.k ho.r
theorem rright_any (n : Ino) (ho : Oki n) (w : World) : Calls Tryz.prog 135 #[inoV n] w fun e w' => e = .returned (.bool (rightB n)) ∧ Below w.heap.size w w' := by
  obtain ⟨k, r, l, s, p⟩ := n
  obtain ⟨p0, p1, p2, p3, p4, p5, p6, p7, p8, p9, hp⟩ := ten_of ho.len
  simp only at hp
  subst hp
  exact rright_ten k r l s p0 p1 p2 p3 p4 p5 p6 p7 p8 p9 w ho.r
theorem pof_any (n : Ino) (ho : Oki n) (w : World) : Calls Tryz.prog 150 #[inoV n] w fun e w' => e = .returned (.agg (intsV n.p).toArray) ∧ Below w.heap.size w w' := by
  obtain ⟨k, r, l, s, p⟩ := n
  obtain ⟨p0, p1, p2, p3, p4, p5, p6, p7, p8, p9, hp⟩ := ten_of ho.len
  simp only at hp
  subst hp
  exact pof_ten k r l s p0 p1 p2 p3 p4 p5 p6 p7 p8 p9 w
end Go.Proofs.YtcjkbmmjpkghlaaGreat.Inode
