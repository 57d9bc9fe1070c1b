/-
  The journal on paper: sectors as bytes and a tag, heads, lists, how patches are stored, and what is written, step by step.
-/
import Derived.Test.YtnkpmmijdkcdjaaS3
import Derived.Test.YtnkpmmijdkcdjaaW3
import Derived.Test.YtnkpmmijdkcdjaaUF
namespace Go.Proofs.Ytnkpmmijdkcdjaa
open Go.RowKit

/-- A sector: 64 bytes and a tag. -/
structure Sx where
  b : List UInt8
  t : Nat
  hb : b.length = 64
  ht : t < 65536
theorem Sx.same {c d : Sx} (h1 : c.b = d.b) (h2 : c.t = d.t) : c = d := by
  cases c; cases d; simp only at h1 h2; subst h1; subst h2; rfl
/-- Its cells. -/
def sx (c : Sx) : List Value := bytesV c.b ++ [.int .u16 (c.t : Int)]
theorem sx_enc : Enc sx := ⟨fun c => by simp [sx, length_bytesV, c.hb], fun c u hu => by
  simp only [sx, List.mem_append, List.mem_singleton] at hu
  rcases hu with hu | rfl
  · exact bytesV_one _ u hu
  · rfl⟩
/-- A sector of bytes 0. -/
def zx : Sx := ⟨List.replicate 64 0, 0, by simp, by decide⟩
theorem sx_zero : sx zx = z65 := by
  simp only [sx, zx, bytesV, List.map_replicate, z65]
  rfl

/-! A head. -/
def headR (seq n : Nat) : List UInt8 := put (put (List.replicate 60 0) 0 (digs seq 8)) 8 (digs n 2)
theorem headR_eq (seq n : Nat) : headR seq n = digs seq 8 ++ (digs n 2 ++ List.replicate 50 0) := by
  have h1 : (digs seq 8).length = 8 := length_digs _ _
  have h2 : (digs n 2).length = 2 := length_digs _ _
  simp only [headR, put, h1, h2, List.take_zero, List.nil_append, Nat.zero_add, List.drop_replicate]
  rw [List.take_append_of_le_length (by omega), List.take_of_length_le (by omega), List.drop_append, h1, List.drop_of_length_le (by omega), List.nil_append, List.drop_replicate, List.append_assoc]
theorem length_headR (seq n : Nat) : (headR seq n).length = 60 := by
  rw [headR_eq]; simp [length_digs]
def headB (seq n : Nat) : List UInt8 := sealed (headR seq n)
theorem length_headB (seq n : Nat) : (headB seq n).length = 64 := by rw [headB, length_sealed, length_headR]
theorem headB_seq (seq n : Nat) (h : seq < 18446744073709551616) : le (((headB seq n).drop 0).take 8) = seq := by
  rw [headB, sealed, headR_eq, List.drop_zero, List.append_assoc, List.take_append_of_le_length (by rw [length_digs]; omega), List.take_of_length_le (by rw [length_digs]; omega), le_digs_of_lt _ _ (by omega)]
theorem headB_cnt (seq n : Nat) (h : n < 65536) : le (((headB seq n).drop 8).take 2) = n := by
  rw [headB, sealed, headR_eq, List.append_assoc, List.drop_append, length_digs, List.drop_of_length_le (by rw [length_digs]; omega), List.nil_append, Nat.sub_self, List.drop_zero, List.append_assoc,
    List.take_append_of_le_length (by rw [length_digs]; omega), List.take_of_length_le (by rw [length_digs]; omega), le_digs_of_lt _ _ (by omega)]
def headS (seq n : Nat) : Sx := ⟨headB seq n, 0, length_headB _ _, by decide⟩

/-! A list. -/
def words (g : List (Nat × Sx)) : List Nat := g.flatMap fun p => [p.1, p.2.t]
theorem length_words (g : List (Nat × Sx)) : (words g).length = 2 * g.length := by
  induction g with
  | nil => rfl
  | cons p g ih => simp only [words, List.flatMap_cons, List.length_append, List.length_cons, List.length_nil] at ih ⊢; omega
theorem words_append (g m : List (Nat × Sx)) : words (g ++ m) = words g ++ words m := by simp [words]
theorem words_get (g : List (Nat × Sx)) : ∀ (k : Nat) (p : Nat × Sx), g[k]? = some p → (words g)[2 * k]? = some p.1 ∧ (words g)[2 * k + 1]? = some p.2.t := by
  induction g with
  | nil => intro k p h; simp at h
  | cons q g ih =>
    intro k p h
    cases k with
    | zero => simp at h; subst h; simp [words]
    | succ k =>
      obtain ⟨h1, h2⟩ := ih k p (by simpa using h)
      have e : words (q :: g) = q.1 :: q.2.t :: words g := rfl
      rw [e, show 2 * (k + 1) = 2 * k + 1 + 1 by omega]
      exact ⟨by simpa using h1, by simpa using h2⟩
def listB (g : List (Nat × Sx)) : List UInt8 := (padl (layl 2 (words g)) 64).take 64
theorem length_listB (g : List (Nat × Sx)) : (listB g).length = 64 := by simp [listB, padl]; omega
theorem listB_eq (g : List (Nat × Sx)) (h : g.length ≤ 15) : listB g = padl (layl 2 (words g)) 64 := by
  rw [listB, List.take_of_length_le]
  rw [length_padl _ _ (by rw [length_layl, length_words]; omega)]
  exact Nat.le_refl _
def listS (g : List (Nat × Sx)) : Sx := ⟨listB g, 0, length_listB g, by decide⟩
theorem listB_word (g : List (Nat × Sx)) (h : g.length ≤ 15) (j x : Nat) (hx : (words g)[j]? = some x) (hlt : x < 65536) : le (((listB g).drop (j * 2)).take 2) = x := by
  have hj : j < (words g).length := (List.getElem?_eq_some_iff.1 hx).1
  rw [listB_eq g h, padl, List.drop_append_of_le_length (by rw [length_layl]; omega), List.take_append_of_le_length (by rw [List.length_drop, length_layl]; omega)]
  have hl : (layl 2 (words g)).length / 2 = (words g).length := by rw [length_layl]; omega
  obtain ⟨xs, hxs⟩ : ∃ xs, xs = words g := ⟨_, rfl⟩
  rw [← hxs] at hx hj hl ⊢
  clear hxs h
  have h1 := le_digs_of_lt x 2 (by omega)
  have e : xs = xs.take j ++ x :: xs.drop (j + 1) := by
    obtain ⟨h2, h3⟩ := List.getElem?_eq_some_iff.1 hx
    rw [← h3, List.getElem_cons_drop, List.take_append_drop]
  have hlen : (layl 2 (xs.take j)).length = j * 2 := by rw [length_layl, List.length_take]; omega
  rw [e, layl_append, List.drop_append, ← hlen, List.drop_length, Nat.sub_self, List.nil_append, List.drop_zero, layl, List.take_append_of_le_length (by rw [length_digs]; omega), List.take_of_length_le (by rw [length_digs]; omega), h1]

/-! How patches are stored. -/
def grp (l : List (Nat × Sx)) (c : Nat) : List (Nat × Sx) := (l.drop (15 * c)).take 15
def storedTo (l : List (Nat × Sx)) : Nat → List Sx
  | 0 => []
  | c + 1 => storedTo l c ++ (listS (grp l c) :: (grp l c).map (·.2))
def stored (l : List (Nat × Sx)) : List Sx := storedTo l ((l.length + 14) / 15)
theorem length_grp (l : List (Nat × Sx)) (c : Nat) : (grp l c).length = min 15 (l.length - 15 * c) := by simp [grp]
theorem length_storedTo (l : List (Nat × Sx)) : ∀ c, 15 * c ≤ l.length → (storedTo l c).length = 16 * c
  | 0, _ => rfl
  | c + 1, h => by
    rw [storedTo, List.length_append, length_storedTo l c (by omega), List.length_cons, List.length_map, length_grp]
    omega
theorem length_stored (l : List (Nat × Sx)) : (stored l).length = l.length + (l.length + 14) / 15 := by
  unfold stored
  obtain ⟨C, hC⟩ : ∃ C, C = (l.length + 14) / 15 := ⟨_, rfl⟩
  rw [← hC]
  cases C with
  | zero => simp [storedTo]; omega
  | succ c =>
    rw [storedTo, List.length_append, length_storedTo l c (by omega), List.length_cons, List.length_map, length_grp]
    omega
theorem storedTo_pre (l : List (Nat × Sx)) (c d : Nat) (h : c ≤ d) : ∃ r, storedTo l d = storedTo l c ++ r := by
  induction d with
  | zero => obtain rfl : c = 0 := by omega
            exact ⟨[], by simp⟩
  | succ d ih =>
    rcases Nat.lt_or_ge c (d + 1) with h1 | h1
    · obtain ⟨r, hr⟩ := ih (by omega)
      exact ⟨_, by rw [storedTo, hr, List.append_assoc]⟩
    · obtain rfl : c = d + 1 := by omega
      exact ⟨[], by simp⟩
theorem stored_at (l : List (Nat × Sx)) (i : Nat) (p : Nat × Sx) (h : l[i]? = some p) :
    (stored l)[i / 15 * 16]? = some (listS (grp l (i / 15))) ∧ (stored l)[i / 15 * 16 + 1 + i % 15]? = some p.2 := by
  have hi := (List.getElem?_eq_some_iff.1 h).1
  obtain ⟨c, hc⟩ : ∃ c, c = i / 15 := ⟨_, rfl⟩
  obtain ⟨k, hk⟩ : ∃ k, k = i % 15 := ⟨_, rfl⟩
  rw [← hc, ← hk]
  obtain ⟨r, hr⟩ := storedTo_pre l (c + 1) ((l.length + 14) / 15) (by omega)
  have hl := length_storedTo l c (by omega)
  have hg : (grp l c)[k]? = some p := by
    rw [grp, List.getElem?_take, if_pos (by omega), List.getElem?_drop, show 15 * c + k = i by omega]; exact h
  have hk2 : k < (grp l c).length := (List.getElem?_eq_some_iff.1 hg).1
  unfold stored
  rw [hr, storedTo, List.append_assoc]
  constructor
  · rw [List.getElem?_append_right (by omega), hl, show c * 16 - 16 * c = 0 by omega]; rfl
  · rw [List.getElem?_append_right (by omega), hl, show c * 16 + 1 + k - 16 * c = k + 1 by omega, List.cons_append, List.getElem?_cons_succ, List.getElem?_append_left (by rw [List.length_map]; exact hk2), List.getElem?_map, hg]; rfl

/-- So many sectors. -/
def room (n : Nat) : Nat := (n - 1) / 16 * 15 + ((n - 1) % 16 - 1)

/-- One behind the other, from a sector on. -/
def placed {α : Type} : Nat → List α → List (Nat × α)
  | _, [] => []
  | i, c :: r => (i, c) :: placed (i + 1) r
theorem length_placed {α : Type} (l : List α) : ∀ i, (placed i l).length = l.length := by
  induction l with
  | nil => exact fun _ => rfl
  | cons c r ih => exact fun i => by simp [placed, ih]
theorem placed_get {α : Type} (l : List α) : ∀ i j : Nat, (placed i l)[j]? = l[j]?.map fun c => (i + j, c) := by
  induction l with
  | nil => exact fun i j => rfl
  | cons c r ih =>
    intro i j
    cases j with
    | zero => rfl
    | succ j => simp only [placed, List.getElem?_cons_succ, ih, show i + 1 + j = i + (j + 1) by omega]
theorem placed_mem {α : Type} {l : List α} {i : Nat} {p : Nat × α} (h : p ∈ placed i l) : i ≤ p.1 ∧ p.1 < i + l.length ∧ p.2 ∈ l := by
  obtain ⟨j, hj⟩ := List.mem_iff_getElem?.1 h
  rw [placed_get, Option.map_eq_some_iff] at hj
  obtain ⟨c, hc, rfl⟩ := hj
  have := (List.getElem?_eq_some_iff.1 hc).1
  exact ⟨by simp, by simp; omega, List.mem_of_getElem? hc⟩
theorem puts_placed {α : Type} (l : List α) : ∀ (i : Nat) (S : List α), i + l.length ≤ S.length → ∀ j c, l[j]? = some c → (puts S (placed i l))[i + j]? = some c := by
  induction l with
  | nil => intro i S _ j c h; simp at h
  | cons x r ih =>
    intro i S h j c hj
    simp only [List.length_cons] at h
    rw [placed, puts_cons]
    cases j with
    | zero =>
      simp at hj
      subst hj
      rw [puts_get fun p hp => by have := (placed_mem hp).1; omega]
      rw [Nat.add_zero, List.getElem?_set, if_pos rfl, if_pos (by omega)]
    | succ j =>
      rw [show i + (j + 1) = i + 1 + j by omega]
      exact ih (i + 1) _ (by simp; omega) j c (by simpa using hj)

/-! What is written, and made safe. -/
section
variable {α : Type}
def Dk.writes : Dk α → List (Nat × α) → Int × Dk α
  | k, [] => (if k.off then 6 else 0, k.flush)
  | k, p :: r => if k.off then (6, k.op) else (k.wrote p.1 p.2).writes r
end
def Dk.finish (k : Dk Sx) (start seq : Nat) (l : List (Nat × Sx)) : Int × Dk Sx :=
  if (k.writes l).1 = 0 then (k.writes l).2.writes [(start, headS seq 0)] else k.writes l
def Dk.tell (k : Dk Sx) (start seq : Nat) (l : List (Nat × Sx)) : Int × Dk Sx :=
  if (k.writes [(start, headS seq l.length)]).1 = 0 then (k.writes [(start, headS seq l.length)]).2.finish start seq l else k.writes [(start, headS seq l.length)]
def Dk.commit (k : Dk Sx) (start seq : Nat) (l : List (Nat × Sx)) : Int × Dk Sx :=
  if (k.writes (placed (start + 1) (stored l))).1 = 0 then (k.writes (placed (start + 1) (stored l))).2.tell start (seq + 1) l else k.writes (placed (start + 1) (stored l))
end Go.Proofs.Ytnkpmmijdkcdjaa
