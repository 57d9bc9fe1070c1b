/-
  The journal on paper: sectors as bytes and a tag, heads, lists, how patches are stored, and what is written, step by step.
-/
import Derived.Test.YtcjkbmmjpkghlaaGreatQF
import Derived.Test.YtcjkbmmjpkghlaaGreatQDiskB
import Derived.Deep.RegionHeld3
import Derived.Deep.RegionWith
namespace Go.Proofs.YtcjkbmmjpkghlaaGreat
open Go.RowKit

/-- A sector: 64 bytes and a tag. -/
structure Sx where
  b : List UInt8
  t : Nat
  hb : b.length = 64
  ht : t < 65536
theorem Sx.same {c d : Sx} (h1 : c.b = d.b) (h2 : c.t = d.t) : c = d := by
  cases c; cases d; simp only at h1 h2; subst h1; subst h2; rfl
/-- Its cells. -/
def sx (c : Sx) : List Value := bytesV c.b ++ [.int .u16 (c.t : Int)]
theorem sx_enc : Enc sx := ⟨fun c => by simp [sx, length_bytesV, c.hb], fun c u hu => by
  simp only [sx, List.mem_append, List.mem_singleton] at hu
  rcases hu with hu | rfl
  · exact bytesV_one _ u hu
  · rfl⟩
/-- A sector of bytes 0. -/
def zx : Sx := ⟨List.replicate 64 0, 0, by simp, by decide⟩
theorem sx_zero : sx zx = z65 := by
  simp only [sx, zx, bytesV, List.map_replicate, z65]
  rfl

/-! A head. -/
def headR (seq n : Nat) : List UInt8 := put (put (List.replicate 60 0) 0 (digs seq 8)) 8 (digs n 2)
theorem headR_eq (seq n : Nat) : headR seq n = digs seq 8 ++ (digs n 2 ++ List.replicate 50 0) := by
  have h1 : (digs seq 8).length = 8 := length_digs _ _
  have h2 : (digs n 2).length = 2 := length_digs _ _
  simp only [headR, put, h1, h2, List.take_zero, List.nil_append, Nat.zero_add, List.drop_replicate]
  rw [List.take_append_of_le_length (by omega), List.take_of_length_le (by omega), List.drop_append, h1, List.drop_of_length_le (by omega), List.nil_append, List.drop_replicate, List.append_assoc]
theorem length_headR (seq n : Nat) : (headR seq n).length = 60 := by
  rw [headR_eq]; simp [length_digs]
def headB (seq n : Nat) : List UInt8 := sealed (headR seq n)
theorem length_headB (seq n : Nat) : (headB seq n).length = 64 := by rw [headB, length_sealed, length_headR]
theorem headB_seq (seq n : Nat) (h : seq < 18446744073709551616) : le (((headB seq n).drop 0).take 8) = seq := by
  rw [headB, sealed, headR_eq, List.drop_zero, List.append_assoc, List.take_append_of_le_length (by rw [length_digs]; omega), List.take_of_length_le (by rw [length_digs]; omega), le_digs_of_lt _ _ (by omega)]
theorem headB_cnt (seq n : Nat) (h : n < 65536) : le (((headB seq n).drop 8).take 2) = n := by
  rw [headB, sealed, headR_eq, List.append_assoc, List.drop_append, length_digs, List.drop_of_length_le (by rw [length_digs]; omega), List.nil_append, Nat.sub_self, List.drop_zero, List.append_assoc,
    List.take_append_of_le_length (by rw [length_digs]; omega), List.take_of_length_le (by rw [length_digs]; omega), le_digs_of_lt _ _ (by omega)]
def headS (seq n : Nat) : Sx := ⟨headB seq n, 0, length_headB _ _, by decide⟩

/-! A list. -/
def words (g : List (Nat × Sx)) : List Nat := g.flatMap fun p => [p.1, p.2.t]
theorem length_words (g : List (Nat × Sx)) : (words g).length = 2 * g.length := by
  induction g with
  | nil => rfl
  | cons p g ih => simp only [words, List.flatMap_cons, List.length_append, List.length_cons, List.length_nil] at ih ⊢; omega
theorem words_append (g m : List (Nat × Sx)) : words (g ++ m) = words g ++ words m := by simp [words]
theorem words_get (g : List (Nat × Sx)) : ∀ (k : Nat) (p : Nat × Sx), g[k]? = some p → (words g)[2 * k]? = some p.1 ∧ (words g)[2 * k + 1]? = some p.2.t := by
  induction g with
  | nil => intro k p h; simp at h
  | cons q g ih =>
    intro k p h
    cases k with
    | zero => simp at h; subst h; simp [words]
    | succ k =>
      obtain ⟨h1, h2⟩ := ih k p (by simpa using h)
      have e : words (q :: g) = q.1 :: q.2.t :: words g := rfl
      rw [e, show 2 * (k + 1) = 2 * k + 1 + 1 by omega]
      exact ⟨by simpa using h1, by simpa using h2⟩
def listB (g : List (Nat × Sx)) : List UInt8 := (padl (layl 2 (words g)) 64).take 64
theorem length_listB (g : List (Nat × Sx)) : (listB g).length = 64 := by simp [listB, padl]; omega
theorem listB_eq (g : List (Nat × Sx)) (h : g.length ≤ 15) : listB g = padl (layl 2 (words g)) 64 := by
  rw [listB, List.take_of_length_le]
  rw [length_padl _ _ (by rw [length_layl, length_words]; omega)]
  exact Nat.le_refl _
def listS (g : List (Nat × Sx)) : Sx := ⟨listB g, 0, length_listB g, by decide⟩
theorem listB_word (g : List (Nat × Sx)) (h : g.length ≤ 15) (j x : Nat) (hx : (words g)[j]? = some x) (hlt : x < 65536) : le (((listB g).drop (j * 2)).take 2) = x := by
  have hj : j < (words g).length := (List.getElem?_eq_some_iff.1 hx).1
  rw [listB_eq g h, padl, List.drop_append_of_le_length (by rw [length_layl]; omega), List.take_append_of_le_length (by rw [List.length_drop, length_layl]; omega)]
  have hl : (layl 2 (words g)).length / 2 = (words g).length := by rw [length_layl]; omega
  obtain ⟨xs, hxs⟩ : ∃ xs, xs = words g := ⟨_, rfl⟩
  rw [← hxs] at hx hj hl ⊢
  clear hxs h
  have h1 := le_digs_of_lt x 2 (by omega)
  have e : xs = xs.take j ++ x :: xs.drop (j + 1) := by
    obtain ⟨h2, h3⟩ := List.getElem?_eq_some_iff.1 hx
    rw [← h3, List.getElem_cons_drop, List.take_append_drop]
  have hlen : (layl 2 (xs.take j)).length = j * 2 := by rw [length_layl, List.length_take]; omega
  rw [e, layl_append, List.drop_append, ← hlen, List.drop_length, Nat.sub_self, List.nil_append, List.drop_zero, layl, List.take_append_of_le_length (by rw [length_digs]; omega), List.take_of_length_le (by rw [length_digs]; omega), h1]

/-! How patches are stored. -/
def grp (l : List (Nat × Sx)) (c : Nat) : List (Nat × Sx) := (l.drop (15 * c)).take 15
def storedTo (l : List (Nat × Sx)) : Nat → List Sx
  | 0 => []
  | c + 1 => storedTo l c ++ (listS (grp l c) :: (grp l c).map (·.2))
def stored (l : List (Nat × Sx)) : List Sx := storedTo l ((l.length + 14) / 15)
theorem length_grp (l : List (Nat × Sx)) (c : Nat) : (grp l c).length = min 15 (l.length - 15 * c) := by simp [grp]
theorem length_storedTo (l : List (Nat × Sx)) : ∀ c, 15 * c ≤ l.length → (storedTo l c).length = 16 * c
  | 0, _ => rfl
  | c + 1, h => by
    rw [storedTo, List.length_append, length_storedTo l c (by omega), List.length_cons, List.length_map, length_grp]
    omega
theorem length_stored (l : List (Nat × Sx)) : (stored l).length = l.length + (l.length + 14) / 15 := by
  unfold stored
  obtain ⟨C, hC⟩ : ∃ C, C = (l.length + 14) / 15 := ⟨_, rfl⟩
  rw [← hC]
  cases C with
  | zero => simp [storedTo]; omega
  | succ c =>
    rw [storedTo, List.length_append, length_storedTo l c (by omega), List.length_cons, List.length_map, length_grp]
    omega
theorem storedTo_pre (l : List (Nat × Sx)) (c d : Nat) (h : c ≤ d) : ∃ r, storedTo l d = storedTo l c ++ r := by
  induction d with
  | zero => obtain rfl : c = 0 := by omega
            exact ⟨[], by simp⟩
  | succ d ih =>
    rcases Nat.lt_or_ge c (d + 1) with h1 | h1
    · obtain ⟨r, hr⟩ := ih (by omega)
      exact ⟨_, by rw [storedTo, hr, List.append_assoc]⟩
    · obtain rfl : c = d + 1 := by omega
      exact ⟨[], by simp⟩
theorem stored_at (l : List (Nat × Sx)) (i : Nat) (p : Nat × Sx) (h : l[i]? = some p) :
    (stored l)[i / 15 * 16]? = some (listS (grp l (i / 15))) ∧ (stored l)[i / 15 * 16 + 1 + i % 15]? = some p.2 := by
  have hi := (List.getElem?_eq_some_iff.1 h).1
  obtain ⟨c, hc⟩ : ∃ c, c = i / 15 := ⟨_, rfl⟩
  obtain ⟨k, hk⟩ : ∃ k, k = i % 15 := ⟨_, rfl⟩
  rw [← hc, ← hk]
  obtain ⟨r, hr⟩ := storedTo_pre l (c + 1) ((l.length + 14) / 15) (by omega)
  have hl := length_storedTo l c (by omega)
  have hg : (grp l c)[k]? = some p := by
    rw [grp, List.getElem?_take, if_pos (by omega), List.getElem?_drop, show 15 * c + k = i by omega]; exact h
  have hk2 : k < (grp l c).length := (List.getElem?_eq_some_iff.1 hg).1
  unfold stored
  rw [hr, storedTo, List.append_assoc]
  constructor
  · rw [List.getElem?_append_right (by omega), hl, show c * 16 - 16 * c = 0 by omega]; rfl
  · rw [List.getElem?_append_right (by omega), hl, show c * 16 + 1 + k - 16 * c = k + 1 by omega, List.cons_append, List.getElem?_cons_succ, List.getElem?_append_left (by rw [List.length_map]; exact hk2), List.getElem?_map, hg]; rfl

/-- So many sectors. -/
def room (n : Nat) : Nat := (n - 1) / 16 * 15 + ((n - 1) % 16 - 1)

/-- One behind the other, from a sector on. -/
def placed {α : Type} : Nat → List α → List (Nat × α)
  | _, [] => []
  | i, c :: r => (i, c) :: placed (i + 1) r
theorem length_placed {α : Type} (l : List α) : ∀ i, (placed i l).length = l.length := by
  induction l with
  | nil => exact fun _ => rfl
  | cons c r ih => exact fun i => by simp [placed, ih]
theorem placed_get {α : Type} (l : List α) : ∀ i j : Nat, (placed i l)[j]? = l[j]?.map fun c => (i + j, c) := by
  induction l with
  | nil => exact fun i j => rfl
  | cons c r ih =>
    intro i j
    cases j with
    | zero => rfl
    | succ j => simp only [placed, List.getElem?_cons_succ, ih, show i + 1 + j = i + (j + 1) by omega]
theorem placed_mem {α : Type} {l : List α} {i : Nat} {p : Nat × α} (h : p ∈ placed i l) : i ≤ p.1 ∧ p.1 < i + l.length ∧ p.2 ∈ l := by
  obtain ⟨j, hj⟩ := List.mem_iff_getElem?.1 h
  rw [placed_get, Option.map_eq_some_iff] at hj
  obtain ⟨c, hc, rfl⟩ := hj
  have := (List.getElem?_eq_some_iff.1 hc).1
  exact ⟨by simp, by simp; omega, List.mem_of_getElem? hc⟩
theorem puts_placed {α : Type} (l : List α) : ∀ (i : Nat) (S : List α), i + l.length ≤ S.length → ∀ j c, l[j]? = some c → (puts S (placed i l))[i + j]? = some c := by
  induction l with
  | nil => intro i S _ j c h; simp at h
  | cons x r ih =>
    intro i S h j c hj
    simp only [List.length_cons] at h
    rw [placed, puts_cons]
    cases j with
    | zero =>
      simp at hj
      subst hj
      rw [puts_get fun p hp => by have := (placed_mem hp).1; omega]
      rw [Nat.add_zero, List.getElem?_set, if_pos rfl, if_pos (by omega)]
    | succ j =>
      rw [show i + (j + 1) = i + 1 + j by omega]
      exact ih (i + 1) _ (by simp; omega) j c (by simpa using hj)

/-! What is written, and made safe. -/
section
variable {α : Type}
def Dk.writes : Dk α → List (Nat × α) → Int × Dk α
  | k, [] => (if k.off then 6 else 0, k.flush)
  | k, p :: r => if k.off then (6, k.op) else (k.wrote p.1 p.2).writes r
end
def Dk.finish (k : Dk Sx) (start seq : Nat) (l : List (Nat × Sx)) : Int × Dk Sx :=
  if (k.writes l).1 = 0 then (k.writes l).2.writes [(start, headS seq 0)] else k.writes l
def Dk.tell (k : Dk Sx) (start seq : Nat) (l : List (Nat × Sx)) : Int × Dk Sx :=
  if (k.writes [(start, headS seq l.length)]).1 = 0 then (k.writes [(start, headS seq l.length)]).2.finish start seq l else k.writes [(start, headS seq l.length)]
def Dk.commit (k : Dk Sx) (start seq : Nat) (l : List (Nat × Sx)) : Int × Dk Sx :=
  if (k.writes (placed (start + 1) (stored l))).1 = 0 then (k.writes (placed (start + 1) (stored l))).2.tell start (seq + 1) l else k.writes (placed (start + 1) (stored l))
end Go.Proofs.YtcjkbmmjpkghlaaGreat

/-
  The journal's small calls: how many sectors are needed, how many patches there is room for, its number, and which sectors a patch may have.
-/
namespace Go.Proofs.YtcjkbmmjpkghlaaGreat
open Go.RowKit
attribute [local go_sem ↓] Go.wp_at_zero Go.wp_at_succ

abbrev I64 (n : Int) : Prop := -9223372036854775808 ≤ n ∧ n ≤ 9223372036854775807
/-- A journal's own block. -/
abbrev JB (w : World) (bj b start n seq : Nat) : Prop := Bk w bj 151 [.pointer (some ⟨b, 0, none⟩), .int .i64 (start : Int), .int .i64 (n : Int), .int .u64 (seq : Int)]

def needI (n : Int) : Int := if n < 1 then 0 else n + 1 + (n - 1) / 15

theorem need_any (n : Int) (h : I64 n) (hm : n ≤ 1000000) (w : World) :
    Calls Tryz.prog 153 #[.int .i64 n] w fun e w' => e = .returned (.int .i64 (needI n)) ∧ w = w' := by
  unfold needI
  obtain ⟨h1, h2⟩ := h
  by_cases hn : n < 1
  · rw [if_pos hn]
    go_enter Tryz.func153, Tryz.ntmps153
    go_wp2
    go_ret
    exact ⟨rfl, rfl⟩
  · rw [if_neg hn]
    go_enter Tryz.func153, Tryz.ntmps153
    go_wp2
    go_ret
    exact ⟨rfl, rfl⟩

theorem room_any (w : World) (bj b start n seq : Nat) (hJ : JB w bj b start n seq) (hn : 3 ≤ n) (hn2 : n ≤ 4096) :
    Calls Tryz.prog 52 #[.pointer (some ⟨bj, 0, none⟩)] w fun e w' => e = .returned (.int .i64 (room n : Int)) ∧ w = w' := by
  have c2 := hJ.cell 2
  clear hJ
  go_enter Tryz.func52, Tryz.ntmps52
  go_wp2
  · go_ret
    exact ⟨by rw [show (room n : Int) = ((n : Int) - 1) / 16 * 15 by unfold room; omega]; rfl, rfl⟩
  · go_ret
    exact ⟨by rw [show (room n : Int) = ((n : Int) - 1) / 16 * 15 + (((n : Int) - 1) % 16 - 1) by unfold room; omega]; rfl, rfl⟩
theorem room_nil (w : World) : Calls Tryz.prog 52 #[.pointer none] w fun e w' => e = .returned (.int .i64 0) ∧ w = w' := by
  go_enter Tryz.func52, Tryz.ntmps52
  go_wp2
  go_ret
  exact ⟨rfl, rfl⟩
/-- May a patch have this sector? -/
def takesB (m start n : Nat) (s : Int) : Bool := decide (0 ≤ s) && (decide (s < (m : Int)) && (decide (s < (start : Int)) || decide (((start + n : Nat) : Int) ≤ s)))

theorem takes_any (w : World) (S : Nat → Prop) (bj b start n seq : Nat) (k : Dk Sx) (hJ : JB w bj b start n seq) (hD : IsDisk sx w S b k) (hs : start ≤ 4096) (hn : n ≤ 4096) (s : Int) :
    Calls Tryz.prog 167 #[.pointer (some ⟨bj, 0, none⟩), .int .i64 s] w fun e w' => e = .returned (.bool (takesB k.safe.length start n s)) ∧ Below w.heap.size w w' := by
  have c0 := hJ.cell 0
  have c1 := hJ.cell 1
  have c2 := hJ.cell 2
  have D := Lib.hid hD
  have Hs := Lib.hid hs
  have Hn := Lib.hid hn
  have hsum : (start : Int) + (n : Int) = ((start + n : Nat) : Int) := by omega
  have hwr : IntKind.i64.wrap ((start + n : Nat) : Int) = ((start + n : Nat) : Int) := by rw [IntKind.wrap_i64]; omega
  unfold takesB
  obtain ⟨z, hz⟩ : ∃ z : Int, z = ((start + n : Nat) : Int) := ⟨_, rfl⟩
  rw [← hz] at hwr hsum ⊢
  clear hJ hD hz hs hn
  generalize hm : k.safe.length = m
  have hm' := hm
  cases h1 : decide (0 ≤ s)
  · skip
    go_enter Tryz.func167, Tryz.ntmps167
    go_wp2
    refine wp_region_held_drew (S := fun w' => w' = w.drew) (by kernel_rfl) rfl (fun hHeld => ?_)
    refine wpAnyH_take (i := 0) (oi := _) (v := ?_) (by simp only [List.getElem?_toArray, List.getElem?_cons_zero]; rfl) (by kernel_rfl) (by kernel_rfl) (by kernel_rfl) (by exact fun _ _ _ h => h) (Or.inl ⟨by rfl, ?hya0⟩) (by assumption) ?rea0
    case hya0 => (rintro _ rfl; go_simp <;> with_reducible rfl)
    try simp only [Act.put, List.setIfInBounds_toArray, List.set_cons_zero, List.set_cons_succ]
    refine wpAnyH_take (i := 1) (oi := _) (v := ?_) (by simp only [List.getElem?_toArray, List.getElem?_cons_succ, List.getElem?_cons_zero]; rfl) (by kernel_rfl) (by kernel_rfl) (by kernel_rfl) (by exact fun _ _ _ h => h) (Or.inl ⟨by rfl, ?hya1⟩) (by assumption) ?rea1
    case hya1 => (rintro _ rfl; go_simp <;> with_reducible rfl)
    try simp only [Act.put, List.setIfInBounds_toArray, List.set_cons_zero, List.set_cons_succ]
    refine wpAnyH_take (i := 2) (oi := _) (v := ?_) (by simp only [List.getElem?_toArray, List.getElem?_cons_succ, List.getElem?_cons_zero]; rfl) (by kernel_rfl) (by kernel_rfl) (by kernel_rfl) (by exact fun _ _ _ h => h) (Or.inl ⟨by rfl, ?hya2⟩) (by assumption) ?rea2
    case hya2 => (rintro _ rfl; go_simp <;> with_reducible rfl)
    try simp only [Act.put, List.setIfInBounds_toArray, List.set_cons_zero, List.set_cons_succ]
    refine wpAnyH_take (i := 3) (oi := _) (v := undef) (by simp only [List.getElem?_toArray, List.getElem?_cons_succ, List.getElem?_cons_zero]; rfl) (by kernel_rfl) (by kernel_rfl) (by kernel_rfl) (by exact fun _ _ _ h => h) (Or.inr ⟨by rfl, rfl⟩) (by assumption) ?_
    try simp only [Act.put, List.setIfInBounds_toArray, List.set_cons_zero, List.set_cons_succ]
    refine wpAnyH_take (i := 4) (oi := _) (v := undef) (by simp only [List.getElem?_toArray, List.getElem?_cons_succ, List.getElem?_cons_zero]; rfl) (by kernel_rfl) (by kernel_rfl) (by kernel_rfl) (by exact fun _ _ _ h => h) (Or.inr ⟨by rfl, rfl⟩) (by assumption) ?_
    try simp only [Act.put, List.setIfInBounds_toArray, List.set_cons_zero, List.set_cons_succ]
    refine wpAnyH_take (i := 5) (oi := _) (v := undef) (by simp only [List.getElem?_toArray, List.getElem?_cons_succ, List.getElem?_cons_zero]; rfl) (by kernel_rfl) (by kernel_rfl) (by kernel_rfl) (by exact fun _ _ _ h => h) (Or.inr ⟨by rfl, rfl⟩) (by assumption) ?_
    try simp only [Act.put, List.setIfInBounds_toArray, List.set_cons_zero, List.set_cons_succ]
    refine wpAnyH_take (i := 6) (oi := _) (v := undef) (by simp only [List.getElem?_toArray, List.getElem?_cons_succ, List.getElem?_cons_zero]; rfl) (by kernel_rfl) (by kernel_rfl) (by kernel_rfl) (by exact fun _ _ _ h => h) (Or.inr ⟨by rfl, rfl⟩) (by assumption) ?_
    try simp only [Act.put, List.setIfInBounds_toArray, List.set_cons_zero, List.set_cons_succ]
    refine wpAnyH_take (i := 7) (oi := _) (v := undef) (by simp only [List.getElem?_toArray, List.getElem?_cons_succ, List.getElem?_cons_zero]; rfl) (by kernel_rfl) (by kernel_rfl) (by kernel_rfl) (by exact fun _ _ _ h => h) (Or.inr ⟨by rfl, rfl⟩) (by assumption) ?_
    try simp only [Act.put, List.setIfInBounds_toArray, List.set_cons_zero, List.set_cons_succ]
    refine wpAnyH_take (i := 8) (oi := _) (v := undef) (by simp only [List.getElem?_toArray, List.getElem?_cons_succ, List.getElem?_cons_zero]; rfl) (by kernel_rfl) (by kernel_rfl) (by kernel_rfl) (by exact fun _ _ _ h => h) (Or.inr ⟨by rfl, rfl⟩) (by assumption) ?_
    try simp only [Act.put, List.setIfInBounds_toArray, List.set_cons_zero, List.set_cons_succ]
    refine wpAnyH_take (i := 9) (oi := _) (v := undef) (by simp only [List.getElem?_toArray, List.getElem?_cons_succ, List.getElem?_cons_zero]; rfl) (by kernel_rfl) (by kernel_rfl) (by kernel_rfl) (by exact fun _ _ _ h => h) (Or.inr ⟨by rfl, rfl⟩) (by assumption) ?_
    try simp only [Act.put, List.setIfInBounds_toArray, List.set_cons_zero, List.set_cons_succ]
    refine wpAnyH_take (i := 10) (oi := _) (v := ?_) (by simp only [List.getElem?_toArray, List.getElem?_cons_succ, List.getElem?_cons_zero]; rfl) (by kernel_rfl) (by kernel_rfl) (by kernel_rfl) (by exact fun _ _ _ h => h) (Or.inl ⟨by rfl, ?hya10⟩) (by assumption) ?rea10
    case hya10 => (rintro _ rfl; go_simp <;> with_reducible rfl)
    try simp only [Act.put, List.setIfInBounds_toArray, List.set_cons_zero, List.set_cons_succ]
    refine wpAnyH_take (i := 11) (oi := _) (v := ?_) (by simp only [List.getElem?_toArray, List.getElem?_cons_succ, List.getElem?_cons_zero]; rfl) (by kernel_rfl) (by kernel_rfl) (by kernel_rfl) (by exact fun _ _ _ h => h) (Or.inl ⟨by rfl, ?hya11⟩) (by assumption) ?rea11
    case hya11 => (rintro _ rfl; go_simp <;> with_reducible rfl)
    try simp only [Act.put, List.setIfInBounds_toArray, List.set_cons_zero, List.set_cons_succ]
    refine wpAnyH_take (i := 12) (oi := _) (v := undef) (by simp only [List.getElem?_toArray, List.getElem?_cons_succ, List.getElem?_cons_zero]; rfl) (by kernel_rfl) (by kernel_rfl) (by kernel_rfl) (by exact fun _ _ _ h => h) (Or.inr ⟨by rfl, rfl⟩) (by assumption) ?_
    try simp only [Act.put, List.setIfInBounds_toArray, List.set_cons_zero, List.set_cons_succ]
    refine wpAnyH_take (i := 13) (oi := _) (v := undef) (by simp only [List.getElem?_toArray, List.getElem?_cons_succ, List.getElem?_cons_zero]; rfl) (by kernel_rfl) (by kernel_rfl) (by kernel_rfl) (by exact fun _ _ _ h => h) (Or.inr ⟨by rfl, rfl⟩) (by assumption) ?_
    try simp only [Act.put, List.setIfInBounds_toArray, List.set_cons_zero, List.set_cons_succ]
    refine wpAnyH_take (i := 14) (oi := _) (v := undef) (by simp only [List.getElem?_toArray, List.getElem?_cons_succ, List.getElem?_cons_zero]; rfl) (by kernel_rfl) (by kernel_rfl) (by kernel_rfl) (by exact fun _ _ _ h => h) (Or.inr ⟨by rfl, rfl⟩) (by assumption) ?_
    try simp only [Act.put, List.setIfInBounds_toArray, List.set_cons_zero, List.set_cons_succ]
    refine wpAnyH_take (i := 15) (oi := _) (v := undef) (by simp only [List.getElem?_toArray, List.getElem?_cons_succ, List.getElem?_cons_zero]; rfl) (by kernel_rfl) (by kernel_rfl) (by kernel_rfl) (by exact fun _ _ _ h => h) (Or.inr ⟨by rfl, rfl⟩) (by assumption) ?_
    try simp only [Act.put, List.setIfInBounds_toArray, List.set_cons_zero, List.set_cons_succ]
    refine wpAnyH_take (i := 16) (oi := _) (v := undef) (by simp only [List.getElem?_toArray, List.getElem?_cons_succ, List.getElem?_cons_zero]; rfl) (by kernel_rfl) (by kernel_rfl) (by kernel_rfl) (by exact fun _ _ _ h => h) (Or.inr ⟨by rfl, rfl⟩) (by assumption) ?_
    try simp only [Act.put, List.setIfInBounds_toArray, List.set_cons_zero, List.set_cons_succ]
    refine wpAnyH_take (i := 17) (oi := _) (v := undef) (by simp only [List.getElem?_toArray, List.getElem?_cons_succ, List.getElem?_cons_zero]; rfl) (by kernel_rfl) (by kernel_rfl) (by kernel_rfl) (by exact fun _ _ _ h => h) (Or.inr ⟨by rfl, rfl⟩) (by assumption) ?_
    try simp only [Act.put, List.setIfInBounds_toArray, List.set_cons_zero, List.set_cons_succ]
    refine wpAnyH_take (i := 18) (oi := _) (v := undef) (by simp only [List.getElem?_toArray, List.getElem?_cons_succ, List.getElem?_cons_zero]; rfl) (by kernel_rfl) (by kernel_rfl) (by kernel_rfl) (by exact fun _ _ _ h => h) (Or.inr ⟨by rfl, rfl⟩) (by assumption) ?_
    try simp only [Act.put, List.setIfInBounds_toArray, List.set_cons_zero, List.set_cons_succ]
    refine wpAnyH_take (i := 19) (oi := _) (v := undef) (by simp only [List.getElem?_toArray, List.getElem?_cons_succ, List.getElem?_cons_zero]; rfl) (by kernel_rfl) (by kernel_rfl) (by kernel_rfl) (by exact fun _ _ _ h => h) (Or.inr ⟨by rfl, rfl⟩) (by assumption) ?_
    try simp only [Act.put, List.setIfInBounds_toArray, List.set_cons_zero, List.set_cons_succ]
    refine wpAnyH_take (i := 20) (oi := _) (v := undef) (by simp only [List.getElem?_toArray, List.getElem?_cons_succ, List.getElem?_cons_zero]; rfl) (by kernel_rfl) (by kernel_rfl) (by kernel_rfl) (by exact fun _ _ _ h => h) (Or.inr ⟨by rfl, rfl⟩) (by assumption) ?_
    try simp only [Act.put, List.setIfInBounds_toArray, List.set_cons_zero, List.set_cons_succ]
    refine wpAnyH_take (i := 21) (oi := _) (v := undef) (by simp only [List.getElem?_toArray, List.getElem?_cons_succ, List.getElem?_cons_zero]; rfl) (by kernel_rfl) (by kernel_rfl) (by kernel_rfl) (by exact fun _ _ _ h => h) (Or.inr ⟨by rfl, rfl⟩) (by assumption) ?_
    try simp only [Act.put, List.setIfInBounds_toArray, List.set_cons_zero, List.set_cons_succ]
    refine wpAnyH_take (i := 22) (oi := _) (v := undef) (by simp only [List.getElem?_toArray, List.getElem?_cons_succ, List.getElem?_cons_zero]; rfl) (by kernel_rfl) (by kernel_rfl) (by kernel_rfl) (by exact fun _ _ _ h => h) (Or.inr ⟨by rfl, rfl⟩) (by assumption) ?_
    try simp only [Act.put, List.setIfInBounds_toArray, List.set_cons_zero, List.set_cons_succ]
    refine wpAnyH_take (i := 23) (oi := _) (v := undef) (by simp only [List.getElem?_toArray, List.getElem?_cons_succ, List.getElem?_cons_zero]; rfl) (by kernel_rfl) (by kernel_rfl) (by kernel_rfl) (by exact fun _ _ _ h => h) (Or.inr ⟨by rfl, rfl⟩) (by assumption) ?_
    try simp only [Act.put, List.setIfInBounds_toArray, List.set_cons_zero, List.set_cons_succ]
    refine wpAnyH_take (i := 24) (oi := _) (v := undef) (by simp only [List.getElem?_toArray, List.getElem?_cons_succ, List.getElem?_cons_zero]; rfl) (by kernel_rfl) (by kernel_rfl) (by kernel_rfl) (by exact fun _ _ _ h => h) (Or.inr ⟨by rfl, rfl⟩) (by assumption) ?_
    try simp only [Act.put, List.setIfInBounds_toArray, List.set_cons_zero, List.set_cons_succ]
    refine wpAnyH_take (i := 25) (oi := _) (v := undef) (by simp only [List.getElem?_toArray, List.getElem?_cons_succ, List.getElem?_cons_zero]; rfl) (by kernel_rfl) (by kernel_rfl) (by kernel_rfl) (by exact fun _ _ _ h => h) (Or.inr ⟨by rfl, rfl⟩) (by assumption) ?_
    try simp only [Act.put, List.setIfInBounds_toArray, List.set_cons_zero, List.set_cons_succ]
    refine wpAnyH_take (i := 26) (oi := _) (v := undef) (by simp only [List.getElem?_toArray, List.getElem?_cons_succ, List.getElem?_cons_zero]; rfl) (by kernel_rfl) (by kernel_rfl) (by kernel_rfl) (by exact fun _ _ _ h => h) (Or.inr ⟨by rfl, rfl⟩) (by assumption) ?_
    try simp only [Act.put, List.setIfInBounds_toArray, List.set_cons_zero, List.set_cons_succ]
    refine wpAnyH_take (i := 27) (oi := _) (v := undef) (by simp only [List.getElem?_toArray, List.getElem?_cons_succ, List.getElem?_cons_zero]; rfl) (by kernel_rfl) (by kernel_rfl) (by kernel_rfl) (by exact fun _ _ _ h => h) (Or.inr ⟨by rfl, rfl⟩) (by assumption) ?_
    try simp only [Act.put, List.setIfInBounds_toArray, List.set_cons_zero, List.set_cons_succ]
    refine wpAnyH_take (i := 28) (oi := _) (v := undef) (by simp only [List.getElem?_toArray, List.getElem?_cons_succ, List.getElem?_cons_zero]; rfl) (by kernel_rfl) (by kernel_rfl) (by kernel_rfl) (by exact fun _ _ _ h => h) (Or.inr ⟨by rfl, rfl⟩) (by assumption) ?_
    try simp only [Act.put, List.setIfInBounds_toArray, List.set_cons_zero, List.set_cons_succ]
    refine wpAnyH_take (i := 29) (oi := _) (v := undef) (by simp only [List.getElem?_toArray, List.getElem?_cons_succ, List.getElem?_cons_zero]; rfl) (by kernel_rfl) (by kernel_rfl) (by kernel_rfl) (by exact fun _ _ _ h => h) (Or.inr ⟨by rfl, rfl⟩) (by assumption) ?_
    try simp only [Act.put, List.setIfInBounds_toArray, List.set_cons_zero, List.set_cons_succ]
    refine wpAnyH_take (i := 30) (oi := _) (v := undef) (by simp only [List.getElem?_toArray, List.getElem?_cons_succ, List.getElem?_cons_zero]; rfl) (by kernel_rfl) (by kernel_rfl) (by kernel_rfl) (by exact fun _ _ _ h => h) (Or.inr ⟨by rfl, rfl⟩) (by assumption) ?_
    try simp only [Act.put, List.setIfInBounds_toArray, List.set_cons_zero, List.set_cons_succ]
    refine wpAnyH_take (i := 31) (oi := _) (v := ?_) (by simp only [List.getElem?_toArray, List.getElem?_cons_succ, List.getElem?_cons_zero]; rfl) (by kernel_rfl) (by kernel_rfl) (by kernel_rfl) (by exact fun _ _ _ h => h) (Or.inl ⟨by rfl, ?hya31⟩) (by assumption) ?rea31
    case hya31 => (rintro _ rfl; go_simp <;> with_reducible rfl)
    try simp only [Act.put, List.setIfInBounds_toArray, List.set_cons_zero, List.set_cons_succ]
    refine wpAnyH_take (i := 32) (oi := _) (v := ?_) (by simp only [List.getElem?_toArray, List.getElem?_cons_succ, List.getElem?_cons_zero]; rfl) (by kernel_rfl) (by kernel_rfl) (by kernel_rfl) (by exact fun _ _ _ h => h) (Or.inl ⟨by rfl, ?hya32⟩) (by assumption) ?rea32
    case hya32 => (rintro _ rfl; go_simp <;> with_reducible rfl)
    try simp only [Act.put, List.setIfInBounds_toArray, List.set_cons_zero, List.set_cons_succ]
    refine wpAnyH_done (by kernel_rfl) ?_ _
    go_wp2
    go_ret
    exact ⟨rfl, (Below.refl _ _).drew⟩
  · cases h2 : decide (s < (m : Int))
    · skip
      go_enter Tryz.func167, Tryz.ntmps167
      go_wp2
      refine wp_region_held_drew (S := fun w' => w' = w.drew) (by kernel_rfl) rfl (fun hHeld => ?_)
      refine wpAnyH_take (i := 0) (oi := _) (v := ?_) (by simp only [List.getElem?_toArray, List.getElem?_cons_zero]; rfl) (by kernel_rfl) (by kernel_rfl) (by kernel_rfl) (by exact fun _ _ _ h => h) (Or.inl ⟨by rfl, ?hyb0⟩) (by assumption) ?reb0
      case hyb0 => (rintro _ rfl; go_simp <;> with_reducible rfl)
      try simp only [Act.put, List.setIfInBounds_toArray, List.set_cons_zero, List.set_cons_succ]
      refine wpAnyH_take (i := 1) (oi := _) (v := ?_) (by simp only [List.getElem?_toArray, List.getElem?_cons_succ, List.getElem?_cons_zero]; rfl) (by kernel_rfl) (by kernel_rfl) (by kernel_rfl) (by exact fun _ _ _ h => h) (Or.inl ⟨by rfl, ?hyb1⟩) (by assumption) ?reb1
      case hyb1 => (rintro _ rfl; go_simp <;> with_reducible rfl)
      try simp only [Act.put, List.setIfInBounds_toArray, List.set_cons_zero, List.set_cons_succ]
      refine wpAnyH_take (i := 2) (oi := _) (v := ?_) (by simp only [List.getElem?_toArray, List.getElem?_cons_succ, List.getElem?_cons_zero]; rfl) (by kernel_rfl) (by kernel_rfl) (by kernel_rfl) (by exact fun _ _ _ h => h) (Or.inl ⟨by rfl, ?hyb2⟩) (by assumption) ?reb2
      case hyb2 => (rintro _ rfl; go_simp <;> with_reducible rfl)
      try simp only [Act.put, List.setIfInBounds_toArray, List.set_cons_zero, List.set_cons_succ]
      refine wpAnyH_take (i := 3) (oi := _) (v := ?_) (by simp only [List.getElem?_toArray, List.getElem?_cons_succ, List.getElem?_cons_zero]; rfl) (by kernel_rfl) (by kernel_rfl) (by kernel_rfl) (by exact fun _ _ _ h => h) (Or.inl ⟨by rfl, ?hyb3⟩) (by assumption) ?reb3
      case hyb3 => (rintro _ rfl; go_simp <;> with_reducible rfl)
      try simp only [Act.put, List.setIfInBounds_toArray, List.set_cons_zero, List.set_cons_succ]
      refine wpAnyH_take (i := 4) (oi := _) (v := ?_) (by simp only [List.getElem?_toArray, List.getElem?_cons_succ, List.getElem?_cons_zero]; rfl) (by kernel_rfl) (by kernel_rfl) (by kernel_rfl) (by exact fun _ _ _ h => h) (Or.inl ⟨by rfl, ?hyb4⟩) (by assumption) ?reb4
      case hyb4 => (rintro _ rfl; go_simp <;> with_reducible rfl)
      try simp only [Act.put, List.setIfInBounds_toArray, List.set_cons_zero, List.set_cons_succ]
      refine wpAnyH_take (i := 5) (oi := _) (v := ?_) (by simp only [List.getElem?_toArray, List.getElem?_cons_succ, List.getElem?_cons_zero]; rfl) (by kernel_rfl) (by kernel_rfl) (by kernel_rfl) (by exact fun _ _ _ h => h) (Or.inl ⟨by rfl, ?hyb5⟩) (by assumption) ?reb5
      case hyb5 => (rintro _ rfl; go_simp <;> with_reducible rfl)
      try simp only [Act.put, List.setIfInBounds_toArray, List.set_cons_zero, List.set_cons_succ]
      refine wpAnyH_take (i := 6) (oi := _) (v := ?_) (by simp only [List.getElem?_toArray, List.getElem?_cons_succ, List.getElem?_cons_zero]; rfl) (by kernel_rfl) (by kernel_rfl) (by kernel_rfl) (by exact fun _ _ _ h => h) (Or.inl ⟨by rfl, ?hyb6⟩) (by assumption) ?reb6
      case hyb6 => (rintro _ rfl; go_simp <;> with_reducible rfl)
      try simp only [Act.put, List.setIfInBounds_toArray, List.set_cons_zero, List.set_cons_succ]
      refine wpAnyH_take (i := 7) (oi := _) (v := ?_) (by simp only [List.getElem?_toArray, List.getElem?_cons_succ, List.getElem?_cons_zero]; rfl) (by kernel_rfl) (by kernel_rfl) (by kernel_rfl) (by exact fun _ _ _ h => h) (Or.inl ⟨by rfl, ?hyb7⟩) (by assumption) ?reb7
      case hyb7 => (rintro _ rfl; go_simp <;> with_reducible rfl)
      try simp only [Act.put, List.setIfInBounds_toArray, List.set_cons_zero, List.set_cons_succ]
      refine wpAnyH_ready (rs := [8]) (by kernel_rfl) (by simp) ?_
      refine AllReadyH.cons (o := _) (by simp only [List.getElem?_toArray, List.getElem?_cons_succ, List.getElem?_cons_zero]; rfl) (fun K hK => ?_) AllReadyH.nil
      go_simp
      refine (len_any w.drew S b k (D.out.keep fun _ _ => rfl)).mono ?_
      rintro e w' ⟨rfl, rfl⟩
      go_wp2
      refine hK.out _ _ rfl (fun hHeld2 => ?_)
      clear hK K hHeld
      try simp only [Act.put, List.setIfInBounds_toArray, List.set_cons_zero, List.set_cons_succ]
      refine wpAnyH_take (i := 9) (oi := _) (v := ?_) (by simp only [List.getElem?_toArray, List.getElem?_cons_succ, List.getElem?_cons_zero]; rfl) (by kernel_rfl) (by kernel_rfl) (by kernel_rfl) (by exact fun _ _ _ h => h) (Or.inl ⟨by rfl, ?hyb9⟩) (by assumption) ?reb9
      case hyb9 => (rintro _ rfl; go_simp <;> with_reducible rfl)
      try simp only [Act.put, List.setIfInBounds_toArray, List.set_cons_zero, List.set_cons_succ]
      refine wpAnyH_take (i := 10) (oi := _) (v := ?_) (by simp only [List.getElem?_toArray, List.getElem?_cons_succ, List.getElem?_cons_zero]; rfl) (by kernel_rfl) (by kernel_rfl) (by kernel_rfl) (by exact fun _ _ _ h => h) (Or.inl ⟨by rfl, ?hyb10⟩) (by assumption) ?reb10
      case hyb10 => (rintro _ rfl; go_simp <;> with_reducible rfl)
      try simp only [Act.put, List.setIfInBounds_toArray, List.set_cons_zero, List.set_cons_succ]
      refine wpAnyH_take (i := 11) (oi := _) (v := ?_) (by simp only [List.getElem?_toArray, List.getElem?_cons_succ, List.getElem?_cons_zero]; rfl) (by kernel_rfl) (by kernel_rfl) (by kernel_rfl) (by exact fun _ _ _ h => h) (Or.inl ⟨by rfl, ?hyb11⟩) (by assumption) ?reb11
      case hyb11 => (rintro _ rfl; go_simp <;> with_reducible rfl)
      try simp only [Act.put, List.setIfInBounds_toArray, List.set_cons_zero, List.set_cons_succ]
      refine wpAnyH_take (i := 12) (oi := _) (v := undef) (by simp only [List.getElem?_toArray, List.getElem?_cons_succ, List.getElem?_cons_zero]; rfl) (by kernel_rfl) (by kernel_rfl) (by kernel_rfl) (by exact fun _ _ _ h => h) (Or.inr ⟨by rfl, rfl⟩) (by assumption) ?_
      try simp only [Act.put, List.setIfInBounds_toArray, List.set_cons_zero, List.set_cons_succ]
      refine wpAnyH_take (i := 13) (oi := _) (v := undef) (by simp only [List.getElem?_toArray, List.getElem?_cons_succ, List.getElem?_cons_zero]; rfl) (by kernel_rfl) (by kernel_rfl) (by kernel_rfl) (by exact fun _ _ _ h => h) (Or.inr ⟨by rfl, rfl⟩) (by assumption) ?_
      try simp only [Act.put, List.setIfInBounds_toArray, List.set_cons_zero, List.set_cons_succ]
      refine wpAnyH_take (i := 14) (oi := _) (v := undef) (by simp only [List.getElem?_toArray, List.getElem?_cons_succ, List.getElem?_cons_zero]; rfl) (by kernel_rfl) (by kernel_rfl) (by kernel_rfl) (by exact fun _ _ _ h => h) (Or.inr ⟨by rfl, rfl⟩) (by assumption) ?_
      try simp only [Act.put, List.setIfInBounds_toArray, List.set_cons_zero, List.set_cons_succ]
      refine wpAnyH_take (i := 15) (oi := _) (v := undef) (by simp only [List.getElem?_toArray, List.getElem?_cons_succ, List.getElem?_cons_zero]; rfl) (by kernel_rfl) (by kernel_rfl) (by kernel_rfl) (by exact fun _ _ _ h => h) (Or.inr ⟨by rfl, rfl⟩) (by assumption) ?_
      try simp only [Act.put, List.setIfInBounds_toArray, List.set_cons_zero, List.set_cons_succ]
      refine wpAnyH_take (i := 16) (oi := _) (v := undef) (by simp only [List.getElem?_toArray, List.getElem?_cons_succ, List.getElem?_cons_zero]; rfl) (by kernel_rfl) (by kernel_rfl) (by kernel_rfl) (by exact fun _ _ _ h => h) (Or.inr ⟨by rfl, rfl⟩) (by assumption) ?_
      try simp only [Act.put, List.setIfInBounds_toArray, List.set_cons_zero, List.set_cons_succ]
      refine wpAnyH_take (i := 17) (oi := _) (v := undef) (by simp only [List.getElem?_toArray, List.getElem?_cons_succ, List.getElem?_cons_zero]; rfl) (by kernel_rfl) (by kernel_rfl) (by kernel_rfl) (by exact fun _ _ _ h => h) (Or.inr ⟨by rfl, rfl⟩) (by assumption) ?_
      try simp only [Act.put, List.setIfInBounds_toArray, List.set_cons_zero, List.set_cons_succ]
      refine wpAnyH_take (i := 18) (oi := _) (v := undef) (by simp only [List.getElem?_toArray, List.getElem?_cons_succ, List.getElem?_cons_zero]; rfl) (by kernel_rfl) (by kernel_rfl) (by kernel_rfl) (by exact fun _ _ _ h => h) (Or.inr ⟨by rfl, rfl⟩) (by assumption) ?_
      try simp only [Act.put, List.setIfInBounds_toArray, List.set_cons_zero, List.set_cons_succ]
      refine wpAnyH_take (i := 19) (oi := _) (v := undef) (by simp only [List.getElem?_toArray, List.getElem?_cons_succ, List.getElem?_cons_zero]; rfl) (by kernel_rfl) (by kernel_rfl) (by kernel_rfl) (by exact fun _ _ _ h => h) (Or.inr ⟨by rfl, rfl⟩) (by assumption) ?_
      try simp only [Act.put, List.setIfInBounds_toArray, List.set_cons_zero, List.set_cons_succ]
      refine wpAnyH_take (i := 20) (oi := _) (v := undef) (by simp only [List.getElem?_toArray, List.getElem?_cons_succ, List.getElem?_cons_zero]; rfl) (by kernel_rfl) (by kernel_rfl) (by kernel_rfl) (by exact fun _ _ _ h => h) (Or.inr ⟨by rfl, rfl⟩) (by assumption) ?_
      try simp only [Act.put, List.setIfInBounds_toArray, List.set_cons_zero, List.set_cons_succ]
      refine wpAnyH_take (i := 21) (oi := _) (v := undef) (by simp only [List.getElem?_toArray, List.getElem?_cons_succ, List.getElem?_cons_zero]; rfl) (by kernel_rfl) (by kernel_rfl) (by kernel_rfl) (by exact fun _ _ _ h => h) (Or.inr ⟨by rfl, rfl⟩) (by assumption) ?_
      try simp only [Act.put, List.setIfInBounds_toArray, List.set_cons_zero, List.set_cons_succ]
      refine wpAnyH_take (i := 22) (oi := _) (v := undef) (by simp only [List.getElem?_toArray, List.getElem?_cons_succ, List.getElem?_cons_zero]; rfl) (by kernel_rfl) (by kernel_rfl) (by kernel_rfl) (by exact fun _ _ _ h => h) (Or.inr ⟨by rfl, rfl⟩) (by assumption) ?_
      try simp only [Act.put, List.setIfInBounds_toArray, List.set_cons_zero, List.set_cons_succ]
      refine wpAnyH_take (i := 23) (oi := _) (v := undef) (by simp only [List.getElem?_toArray, List.getElem?_cons_succ, List.getElem?_cons_zero]; rfl) (by kernel_rfl) (by kernel_rfl) (by kernel_rfl) (by exact fun _ _ _ h => h) (Or.inr ⟨by rfl, rfl⟩) (by assumption) ?_
      try simp only [Act.put, List.setIfInBounds_toArray, List.set_cons_zero, List.set_cons_succ]
      refine wpAnyH_take (i := 24) (oi := _) (v := undef) (by simp only [List.getElem?_toArray, List.getElem?_cons_succ, List.getElem?_cons_zero]; rfl) (by kernel_rfl) (by kernel_rfl) (by kernel_rfl) (by exact fun _ _ _ h => h) (Or.inr ⟨by rfl, rfl⟩) (by assumption) ?_
      try simp only [Act.put, List.setIfInBounds_toArray, List.set_cons_zero, List.set_cons_succ]
      refine wpAnyH_take (i := 25) (oi := _) (v := undef) (by simp only [List.getElem?_toArray, List.getElem?_cons_succ, List.getElem?_cons_zero]; rfl) (by kernel_rfl) (by kernel_rfl) (by kernel_rfl) (by exact fun _ _ _ h => h) (Or.inr ⟨by rfl, rfl⟩) (by assumption) ?_
      try simp only [Act.put, List.setIfInBounds_toArray, List.set_cons_zero, List.set_cons_succ]
      refine wpAnyH_take (i := 26) (oi := _) (v := undef) (by simp only [List.getElem?_toArray, List.getElem?_cons_succ, List.getElem?_cons_zero]; rfl) (by kernel_rfl) (by kernel_rfl) (by kernel_rfl) (by exact fun _ _ _ h => h) (Or.inr ⟨by rfl, rfl⟩) (by assumption) ?_
      try simp only [Act.put, List.setIfInBounds_toArray, List.set_cons_zero, List.set_cons_succ]
      refine wpAnyH_take (i := 27) (oi := _) (v := undef) (by simp only [List.getElem?_toArray, List.getElem?_cons_succ, List.getElem?_cons_zero]; rfl) (by kernel_rfl) (by kernel_rfl) (by kernel_rfl) (by exact fun _ _ _ h => h) (Or.inr ⟨by rfl, rfl⟩) (by assumption) ?_
      try simp only [Act.put, List.setIfInBounds_toArray, List.set_cons_zero, List.set_cons_succ]
      refine wpAnyH_take (i := 28) (oi := _) (v := undef) (by simp only [List.getElem?_toArray, List.getElem?_cons_succ, List.getElem?_cons_zero]; rfl) (by kernel_rfl) (by kernel_rfl) (by kernel_rfl) (by exact fun _ _ _ h => h) (Or.inr ⟨by rfl, rfl⟩) (by assumption) ?_
      try simp only [Act.put, List.setIfInBounds_toArray, List.set_cons_zero, List.set_cons_succ]
      refine wpAnyH_take (i := 29) (oi := _) (v := undef) (by simp only [List.getElem?_toArray, List.getElem?_cons_succ, List.getElem?_cons_zero]; rfl) (by kernel_rfl) (by kernel_rfl) (by kernel_rfl) (by exact fun _ _ _ h => h) (Or.inr ⟨by rfl, rfl⟩) (by assumption) ?_
      try simp only [Act.put, List.setIfInBounds_toArray, List.set_cons_zero, List.set_cons_succ]
      refine wpAnyH_take (i := 30) (oi := _) (v := undef) (by simp only [List.getElem?_toArray, List.getElem?_cons_succ, List.getElem?_cons_zero]; rfl) (by kernel_rfl) (by kernel_rfl) (by kernel_rfl) (by exact fun _ _ _ h => h) (Or.inr ⟨by rfl, rfl⟩) (by assumption) ?_
      try simp only [Act.put, List.setIfInBounds_toArray, List.set_cons_zero, List.set_cons_succ]
      refine wpAnyH_take (i := 31) (oi := _) (v := ?_) (by simp only [List.getElem?_toArray, List.getElem?_cons_succ, List.getElem?_cons_zero]; rfl) (by kernel_rfl) (by kernel_rfl) (by kernel_rfl) (by exact fun _ _ _ h => h) (Or.inl ⟨by rfl, ?hyb31⟩) (by assumption) ?reb31
      case hyb31 => (rintro _ rfl; go_simp <;> with_reducible rfl)
      try simp only [Act.put, List.setIfInBounds_toArray, List.set_cons_zero, List.set_cons_succ]
      refine wpAnyH_take (i := 32) (oi := _) (v := ?_) (by simp only [List.getElem?_toArray, List.getElem?_cons_succ, List.getElem?_cons_zero]; rfl) (by kernel_rfl) (by kernel_rfl) (by kernel_rfl) (by exact fun _ _ _ h => h) (Or.inl ⟨by rfl, ?hyb32⟩) (by assumption) ?reb32
      case hyb32 => (rintro _ rfl; go_simp <;> with_reducible rfl)
      try simp only [Act.put, List.setIfInBounds_toArray, List.set_cons_zero, List.set_cons_succ]
      refine wpAnyH_done (by kernel_rfl) ?_ _
      go_wp2
      go_ret
      exact ⟨rfl, (Below.refl _ _).drew⟩
    · cases h3 : decide (s < (start : Int))
      · skip
        go_enter Tryz.func167, Tryz.ntmps167
        go_wp2
        refine wp_region_held_drew (S := fun w' => w' = w.drew) (by kernel_rfl) rfl (fun hHeld => ?_)
        refine wpAnyH_take (i := 0) (oi := _) (v := ?_) (by simp only [List.getElem?_toArray, List.getElem?_cons_zero]; rfl) (by kernel_rfl) (by kernel_rfl) (by kernel_rfl) (by exact fun _ _ _ h => h) (Or.inl ⟨by rfl, ?hyc0⟩) (by assumption) ?rec0
        case hyc0 => (rintro _ rfl; go_simp <;> with_reducible rfl)
        try simp only [Act.put, List.setIfInBounds_toArray, List.set_cons_zero, List.set_cons_succ]
        refine wpAnyH_take (i := 1) (oi := _) (v := ?_) (by simp only [List.getElem?_toArray, List.getElem?_cons_succ, List.getElem?_cons_zero]; rfl) (by kernel_rfl) (by kernel_rfl) (by kernel_rfl) (by exact fun _ _ _ h => h) (Or.inl ⟨by rfl, ?hyc1⟩) (by assumption) ?rec1
        case hyc1 => (rintro _ rfl; go_simp <;> with_reducible rfl)
        try simp only [Act.put, List.setIfInBounds_toArray, List.set_cons_zero, List.set_cons_succ]
        refine wpAnyH_take (i := 2) (oi := _) (v := ?_) (by simp only [List.getElem?_toArray, List.getElem?_cons_succ, List.getElem?_cons_zero]; rfl) (by kernel_rfl) (by kernel_rfl) (by kernel_rfl) (by exact fun _ _ _ h => h) (Or.inl ⟨by rfl, ?hyc2⟩) (by assumption) ?rec2
        case hyc2 => (rintro _ rfl; go_simp <;> with_reducible rfl)
        try simp only [Act.put, List.setIfInBounds_toArray, List.set_cons_zero, List.set_cons_succ]
        refine wpAnyH_take (i := 3) (oi := _) (v := ?_) (by simp only [List.getElem?_toArray, List.getElem?_cons_succ, List.getElem?_cons_zero]; rfl) (by kernel_rfl) (by kernel_rfl) (by kernel_rfl) (by exact fun _ _ _ h => h) (Or.inl ⟨by rfl, ?hyc3⟩) (by assumption) ?rec3
        case hyc3 => (rintro _ rfl; go_simp <;> with_reducible rfl)
        try simp only [Act.put, List.setIfInBounds_toArray, List.set_cons_zero, List.set_cons_succ]
        refine wpAnyH_take (i := 4) (oi := _) (v := ?_) (by simp only [List.getElem?_toArray, List.getElem?_cons_succ, List.getElem?_cons_zero]; rfl) (by kernel_rfl) (by kernel_rfl) (by kernel_rfl) (by exact fun _ _ _ h => h) (Or.inl ⟨by rfl, ?hyc4⟩) (by assumption) ?rec4
        case hyc4 => (rintro _ rfl; go_simp <;> with_reducible rfl)
        try simp only [Act.put, List.setIfInBounds_toArray, List.set_cons_zero, List.set_cons_succ]
        refine wpAnyH_take (i := 5) (oi := _) (v := ?_) (by simp only [List.getElem?_toArray, List.getElem?_cons_succ, List.getElem?_cons_zero]; rfl) (by kernel_rfl) (by kernel_rfl) (by kernel_rfl) (by exact fun _ _ _ h => h) (Or.inl ⟨by rfl, ?hyc5⟩) (by assumption) ?rec5
        case hyc5 => (rintro _ rfl; go_simp <;> with_reducible rfl)
        try simp only [Act.put, List.setIfInBounds_toArray, List.set_cons_zero, List.set_cons_succ]
        refine wpAnyH_take (i := 6) (oi := _) (v := ?_) (by simp only [List.getElem?_toArray, List.getElem?_cons_succ, List.getElem?_cons_zero]; rfl) (by kernel_rfl) (by kernel_rfl) (by kernel_rfl) (by exact fun _ _ _ h => h) (Or.inl ⟨by rfl, ?hyc6⟩) (by assumption) ?rec6
        case hyc6 => (rintro _ rfl; go_simp <;> with_reducible rfl)
        try simp only [Act.put, List.setIfInBounds_toArray, List.set_cons_zero, List.set_cons_succ]
        refine wpAnyH_take (i := 7) (oi := _) (v := ?_) (by simp only [List.getElem?_toArray, List.getElem?_cons_succ, List.getElem?_cons_zero]; rfl) (by kernel_rfl) (by kernel_rfl) (by kernel_rfl) (by exact fun _ _ _ h => h) (Or.inl ⟨by rfl, ?hyc7⟩) (by assumption) ?rec7
        case hyc7 => (rintro _ rfl; go_simp <;> with_reducible rfl)
        try simp only [Act.put, List.setIfInBounds_toArray, List.set_cons_zero, List.set_cons_succ]
        refine wpAnyH_ready (rs := [8]) (by kernel_rfl) (by simp) ?_
        refine AllReadyH.cons (o := _) (by simp only [List.getElem?_toArray, List.getElem?_cons_succ, List.getElem?_cons_zero]; rfl) (fun K hK => ?_) AllReadyH.nil
        go_simp
        refine (len_any w.drew S b k (D.out.keep fun _ _ => rfl)).mono ?_
        rintro e w' ⟨rfl, rfl⟩
        go_wp2
        refine hK.out _ _ rfl (fun hHeld2 => ?_)
        clear hK K hHeld
        try simp only [Act.put, List.setIfInBounds_toArray, List.set_cons_zero, List.set_cons_succ]
        refine wpAnyH_take (i := 9) (oi := _) (v := ?_) (by simp only [List.getElem?_toArray, List.getElem?_cons_succ, List.getElem?_cons_zero]; rfl) (by kernel_rfl) (by kernel_rfl) (by kernel_rfl) (by exact fun _ _ _ h => h) (Or.inl ⟨by rfl, ?hyc9⟩) (by assumption) ?rec9
        case hyc9 => (rintro _ rfl; go_simp <;> with_reducible rfl)
        try simp only [Act.put, List.setIfInBounds_toArray, List.set_cons_zero, List.set_cons_succ]
        refine wpAnyH_take (i := 10) (oi := _) (v := ?_) (by simp only [List.getElem?_toArray, List.getElem?_cons_succ, List.getElem?_cons_zero]; rfl) (by kernel_rfl) (by kernel_rfl) (by kernel_rfl) (by exact fun _ _ _ h => h) (Or.inl ⟨by rfl, ?hyc10⟩) (by assumption) ?rec10
        case hyc10 => (rintro _ rfl; go_simp <;> with_reducible rfl)
        try simp only [Act.put, List.setIfInBounds_toArray, List.set_cons_zero, List.set_cons_succ]
        refine wpAnyH_take (i := 11) (oi := _) (v := ?_) (by simp only [List.getElem?_toArray, List.getElem?_cons_succ, List.getElem?_cons_zero]; rfl) (by kernel_rfl) (by kernel_rfl) (by kernel_rfl) (by exact fun _ _ _ h => h) (Or.inl ⟨by rfl, ?hyc11⟩) (by assumption) ?rec11
        case hyc11 => (rintro _ rfl; go_simp <;> with_reducible rfl)
        try simp only [Act.put, List.setIfInBounds_toArray, List.set_cons_zero, List.set_cons_succ]
        refine wpAnyH_take (i := 12) (oi := _) (v := ?_) (by simp only [List.getElem?_toArray, List.getElem?_cons_succ, List.getElem?_cons_zero]; rfl) (by kernel_rfl) (by kernel_rfl) (by kernel_rfl) (by exact fun _ _ _ h => h) (Or.inl ⟨by rfl, ?hyc12⟩) (by assumption) ?rec12
        case hyc12 => (rintro _ rfl; go_simp <;> with_reducible rfl)
        try simp only [Act.put, List.setIfInBounds_toArray, List.set_cons_zero, List.set_cons_succ]
        refine wpAnyH_take (i := 13) (oi := _) (v := ?_) (by simp only [List.getElem?_toArray, List.getElem?_cons_succ, List.getElem?_cons_zero]; rfl) (by kernel_rfl) (by kernel_rfl) (by kernel_rfl) (by exact fun _ _ _ h => h) (Or.inl ⟨by rfl, ?hyc13⟩) (by assumption) ?rec13
        case hyc13 => (rintro _ rfl; go_simp <;> with_reducible rfl)
        try simp only [Act.put, List.setIfInBounds_toArray, List.set_cons_zero, List.set_cons_succ]
        refine wpAnyH_take (i := 14) (oi := _) (v := ?_) (by simp only [List.getElem?_toArray, List.getElem?_cons_succ, List.getElem?_cons_zero]; rfl) (by kernel_rfl) (by kernel_rfl) (by kernel_rfl) (by exact fun _ _ _ h => h) (Or.inl ⟨by rfl, ?hyc14⟩) (by assumption) ?rec14
        case hyc14 => (rintro _ rfl; go_simp <;> with_reducible rfl)
        try simp only [Act.put, List.setIfInBounds_toArray, List.set_cons_zero, List.set_cons_succ]
        refine wpAnyH_take (i := 15) (oi := _) (v := ?_) (by simp only [List.getElem?_toArray, List.getElem?_cons_succ, List.getElem?_cons_zero]; rfl) (by kernel_rfl) (by kernel_rfl) (by kernel_rfl) (by exact fun _ _ _ h => h) (Or.inl ⟨by rfl, ?hyc15⟩) (by assumption) ?rec15
        case hyc15 => (rintro _ rfl; go_simp <;> with_reducible rfl)
        try simp only [Act.put, List.setIfInBounds_toArray, List.set_cons_zero, List.set_cons_succ]
        refine wpAnyH_take (i := 16) (oi := _) (v := ?_) (by simp only [List.getElem?_toArray, List.getElem?_cons_succ, List.getElem?_cons_zero]; rfl) (by kernel_rfl) (by kernel_rfl) (by kernel_rfl) (by exact fun _ _ _ h => h) (Or.inl ⟨by rfl, ?hyc16⟩) (by assumption) ?rec16
        case hyc16 => (rintro _ rfl; go_simp <;> with_reducible rfl)
        try simp only [Act.put, List.setIfInBounds_toArray, List.set_cons_zero, List.set_cons_succ]
        refine wpAnyH_take (i := 17) (oi := _) (v := ?_) (by simp only [List.getElem?_toArray, List.getElem?_cons_succ, List.getElem?_cons_zero]; rfl) (by kernel_rfl) (by kernel_rfl) (by kernel_rfl) (by exact fun _ _ _ h => h) (Or.inl ⟨by rfl, ?hyc17⟩) (by assumption) ?rec17
        case hyc17 => (rintro _ rfl; go_simp <;> with_reducible rfl)
        try simp only [Act.put, List.setIfInBounds_toArray, List.set_cons_zero, List.set_cons_succ]
        refine wpAnyH_take (i := 18) (oi := _) (v := ?_) (by simp only [List.getElem?_toArray, List.getElem?_cons_succ, List.getElem?_cons_zero]; rfl) (by kernel_rfl) (by kernel_rfl) (by kernel_rfl) (by exact fun _ _ _ h => h) (Or.inl ⟨by rfl, ?hyc18⟩) (by assumption) ?rec18
        case hyc18 => (rintro _ rfl; go_simp <;> with_reducible rfl)
        try simp only [Act.put, List.setIfInBounds_toArray, List.set_cons_zero, List.set_cons_succ]
        refine wpAnyH_take (i := 19) (oi := _) (v := ?_) (by simp only [List.getElem?_toArray, List.getElem?_cons_succ, List.getElem?_cons_zero]; rfl) (by kernel_rfl) (by kernel_rfl) (by kernel_rfl) (by exact fun _ _ _ h => h) (Or.inl ⟨by rfl, ?hyc19⟩) (by assumption) ?rec19
        case hyc19 => (rintro _ rfl; go_simp <;> with_reducible rfl)
        try simp only [Act.put, List.setIfInBounds_toArray, List.set_cons_zero, List.set_cons_succ]
        refine wpAnyH_take (i := 20) (oi := _) (v := ?_) (by simp only [List.getElem?_toArray, List.getElem?_cons_succ, List.getElem?_cons_zero]; rfl) (by kernel_rfl) (by kernel_rfl) (by kernel_rfl) (by exact fun _ _ _ h => h) (Or.inl ⟨by rfl, ?hyc20⟩) (by assumption) ?rec20
        case hyc20 => (rintro _ rfl; go_simp <;> with_reducible rfl)
        try simp only [Act.put, List.setIfInBounds_toArray, List.set_cons_zero, List.set_cons_succ]
        refine wpAnyH_take (i := 21) (oi := _) (v := ?_) (by simp only [List.getElem?_toArray, List.getElem?_cons_succ, List.getElem?_cons_zero]; rfl) (by kernel_rfl) (by kernel_rfl) (by kernel_rfl) (by exact fun _ _ _ h => h) (Or.inl ⟨by rfl, ?hyc21⟩) (by assumption) ?rec21
        case hyc21 => (rintro _ rfl; go_simp <;> with_reducible rfl)
        try simp only [Act.put, List.setIfInBounds_toArray, List.set_cons_zero, List.set_cons_succ]
        refine wpAnyH_take (i := 22) (oi := _) (v := ?_) (by simp only [List.getElem?_toArray, List.getElem?_cons_succ, List.getElem?_cons_zero]; rfl) (by kernel_rfl) (by kernel_rfl) (by kernel_rfl) (by exact fun _ _ _ h => h) (Or.inl ⟨by rfl, ?hyc22⟩) (by assumption) ?rec22
        case hyc22 => (rintro _ rfl; go_simp <;> with_reducible rfl)
        try simp only [Act.put, List.setIfInBounds_toArray, List.set_cons_zero, List.set_cons_succ]
        refine wpAnyH_take (i := 23) (oi := _) (v := ?_) (by simp only [List.getElem?_toArray, List.getElem?_cons_succ, List.getElem?_cons_zero]; rfl) (by kernel_rfl) (by kernel_rfl) (by kernel_rfl) (by exact fun _ _ _ h => h) (Or.inl ⟨by rfl, ?hyc23⟩) (by assumption) ?rec23
        case hyc23 => (rintro _ rfl; go_simp <;> with_reducible rfl)
        try simp only [Act.put, List.setIfInBounds_toArray, List.set_cons_zero, List.set_cons_succ]
        refine wpAnyH_take (i := 24) (oi := _) (v := ?_) (by simp only [List.getElem?_toArray, List.getElem?_cons_succ, List.getElem?_cons_zero]; rfl) (by kernel_rfl) (by kernel_rfl) (by kernel_rfl) (by exact fun _ _ _ h => h) (Or.inl ⟨by rfl, ?hyc24⟩) (by assumption) ?rec24
        case hyc24 => (rintro _ rfl; go_simp <;> with_reducible rfl)
        try simp only [Act.put, List.setIfInBounds_toArray, List.set_cons_zero, List.set_cons_succ]
        refine wpAnyH_take (i := 25) (oi := _) (v := ?_) (by simp only [List.getElem?_toArray, List.getElem?_cons_succ, List.getElem?_cons_zero]; rfl) (by kernel_rfl) (by kernel_rfl) (by kernel_rfl) (by exact fun _ _ _ h => h) (Or.inl ⟨by rfl, ?hyc25⟩) (by assumption) ?rec25
        case hyc25 => (rintro _ rfl; go_simp <;> with_reducible rfl)
        try simp only [Act.put, List.setIfInBounds_toArray, List.set_cons_zero, List.set_cons_succ]
        refine wpAnyH_take (i := 26) (oi := _) (v := ?_) (by simp only [List.getElem?_toArray, List.getElem?_cons_succ, List.getElem?_cons_zero]; rfl) (by kernel_rfl) (by kernel_rfl) (by kernel_rfl) (by exact fun _ _ _ h => h) (Or.inl ⟨by rfl, ?hyc26⟩) (by assumption) ?rec26
        case hyc26 => (rintro _ rfl; go_simp <;> with_reducible rfl)
        try simp only [Act.put, List.setIfInBounds_toArray, List.set_cons_zero, List.set_cons_succ]
        refine wpAnyH_take (i := 27) (oi := _) (v := ?_) (by simp only [List.getElem?_toArray, List.getElem?_cons_succ, List.getElem?_cons_zero]; rfl) (by kernel_rfl) (by kernel_rfl) (by kernel_rfl) (by exact fun _ _ _ h => h) (Or.inl ⟨by rfl, ?hyc27⟩) (by assumption) ?rec27
        case hyc27 => (rintro _ rfl; go_simp <;> with_reducible rfl)
        try simp only [Act.put, List.setIfInBounds_toArray, List.set_cons_zero, List.set_cons_succ]
        refine wpAnyH_take (i := 28) (oi := _) (v := ?_) (by simp only [List.getElem?_toArray, List.getElem?_cons_succ, List.getElem?_cons_zero]; rfl) (by kernel_rfl) (by kernel_rfl) (by kernel_rfl) (by exact fun _ _ _ h => h) (Or.inl ⟨by rfl, ?hyc28⟩) (by assumption) ?rec28
        case hyc28 => (rintro _ rfl; go_simp <;> with_reducible rfl)
        try simp only [Act.put, List.setIfInBounds_toArray, List.set_cons_zero, List.set_cons_succ]
        refine wpAnyH_take (i := 29) (oi := _) (v := ?_) (by simp only [List.getElem?_toArray, List.getElem?_cons_succ, List.getElem?_cons_zero]; rfl) (by kernel_rfl) (by kernel_rfl) (by kernel_rfl) (by exact fun _ _ _ h => h) (Or.inl ⟨by rfl, ?hyc29⟩) (by assumption) ?rec29
        case hyc29 => (rintro _ rfl; go_simp <;> with_reducible rfl)
        try simp only [Act.put, List.setIfInBounds_toArray, List.set_cons_zero, List.set_cons_succ]
        refine wpAnyH_take (i := 30) (oi := _) (v := ?_) (by simp only [List.getElem?_toArray, List.getElem?_cons_succ, List.getElem?_cons_zero]; rfl) (by kernel_rfl) (by kernel_rfl) (by kernel_rfl) (by exact fun _ _ _ h => h) (Or.inl ⟨by rfl, ?hyc30⟩) (by assumption) ?rec30
        case hyc30 => (rintro _ rfl; go_simp <;> with_reducible rfl)
        try simp only [Act.put, List.setIfInBounds_toArray, List.set_cons_zero, List.set_cons_succ]
        refine wpAnyH_take (i := 31) (oi := _) (v := ?_) (by simp only [List.getElem?_toArray, List.getElem?_cons_succ, List.getElem?_cons_zero]; rfl) (by kernel_rfl) (by kernel_rfl) (by kernel_rfl) (by exact fun _ _ _ h => h) (Or.inl ⟨by rfl, ?hyc31⟩) (by assumption) ?rec31
        case hyc31 => (rintro _ rfl; go_simp <;> with_reducible rfl)
        try simp only [Act.put, List.setIfInBounds_toArray, List.set_cons_zero, List.set_cons_succ]
        refine wpAnyH_take (i := 32) (oi := _) (v := ?_) (by simp only [List.getElem?_toArray, List.getElem?_cons_succ, List.getElem?_cons_zero]; rfl) (by kernel_rfl) (by kernel_rfl) (by kernel_rfl) (by exact fun _ _ _ h => h) (Or.inl ⟨by rfl, ?hyc32⟩) (by assumption) ?rec32
        case hyc32 => (rintro _ rfl; go_simp <;> with_reducible rfl)
        try simp only [Act.put, List.setIfInBounds_toArray, List.set_cons_zero, List.set_cons_succ]
        refine wpAnyH_done (by kernel_rfl) ?_ _
        go_wp2
        go_ret
        exact ⟨rfl, (Below.refl _ _).drew⟩
      · skip
        go_enter Tryz.func167, Tryz.ntmps167
        go_wp2
        refine wp_region_held_drew (S := fun w' => w' = w.drew) (by kernel_rfl) rfl (fun hHeld => ?_)
        refine wpAnyH_take (i := 0) (oi := _) (v := ?_) (by simp only [List.getElem?_toArray, List.getElem?_cons_zero]; rfl) (by kernel_rfl) (by kernel_rfl) (by kernel_rfl) (by exact fun _ _ _ h => h) (Or.inl ⟨by rfl, ?hyd0⟩) (by assumption) ?red0
        case hyd0 => (rintro _ rfl; go_simp <;> with_reducible rfl)
        try simp only [Act.put, List.setIfInBounds_toArray, List.set_cons_zero, List.set_cons_succ]
        refine wpAnyH_take (i := 1) (oi := _) (v := ?_) (by simp only [List.getElem?_toArray, List.getElem?_cons_succ, List.getElem?_cons_zero]; rfl) (by kernel_rfl) (by kernel_rfl) (by kernel_rfl) (by exact fun _ _ _ h => h) (Or.inl ⟨by rfl, ?hyd1⟩) (by assumption) ?red1
        case hyd1 => (rintro _ rfl; go_simp <;> with_reducible rfl)
        try simp only [Act.put, List.setIfInBounds_toArray, List.set_cons_zero, List.set_cons_succ]
        refine wpAnyH_take (i := 2) (oi := _) (v := ?_) (by simp only [List.getElem?_toArray, List.getElem?_cons_succ, List.getElem?_cons_zero]; rfl) (by kernel_rfl) (by kernel_rfl) (by kernel_rfl) (by exact fun _ _ _ h => h) (Or.inl ⟨by rfl, ?hyd2⟩) (by assumption) ?red2
        case hyd2 => (rintro _ rfl; go_simp <;> with_reducible rfl)
        try simp only [Act.put, List.setIfInBounds_toArray, List.set_cons_zero, List.set_cons_succ]
        refine wpAnyH_take (i := 3) (oi := _) (v := ?_) (by simp only [List.getElem?_toArray, List.getElem?_cons_succ, List.getElem?_cons_zero]; rfl) (by kernel_rfl) (by kernel_rfl) (by kernel_rfl) (by exact fun _ _ _ h => h) (Or.inl ⟨by rfl, ?hyd3⟩) (by assumption) ?red3
        case hyd3 => (rintro _ rfl; go_simp <;> with_reducible rfl)
        try simp only [Act.put, List.setIfInBounds_toArray, List.set_cons_zero, List.set_cons_succ]
        refine wpAnyH_take (i := 4) (oi := _) (v := ?_) (by simp only [List.getElem?_toArray, List.getElem?_cons_succ, List.getElem?_cons_zero]; rfl) (by kernel_rfl) (by kernel_rfl) (by kernel_rfl) (by exact fun _ _ _ h => h) (Or.inl ⟨by rfl, ?hyd4⟩) (by assumption) ?red4
        case hyd4 => (rintro _ rfl; go_simp <;> with_reducible rfl)
        try simp only [Act.put, List.setIfInBounds_toArray, List.set_cons_zero, List.set_cons_succ]
        refine wpAnyH_take (i := 5) (oi := _) (v := ?_) (by simp only [List.getElem?_toArray, List.getElem?_cons_succ, List.getElem?_cons_zero]; rfl) (by kernel_rfl) (by kernel_rfl) (by kernel_rfl) (by exact fun _ _ _ h => h) (Or.inl ⟨by rfl, ?hyd5⟩) (by assumption) ?red5
        case hyd5 => (rintro _ rfl; go_simp <;> with_reducible rfl)
        try simp only [Act.put, List.setIfInBounds_toArray, List.set_cons_zero, List.set_cons_succ]
        refine wpAnyH_take (i := 6) (oi := _) (v := ?_) (by simp only [List.getElem?_toArray, List.getElem?_cons_succ, List.getElem?_cons_zero]; rfl) (by kernel_rfl) (by kernel_rfl) (by kernel_rfl) (by exact fun _ _ _ h => h) (Or.inl ⟨by rfl, ?hyd6⟩) (by assumption) ?red6
        case hyd6 => (rintro _ rfl; go_simp <;> with_reducible rfl)
        try simp only [Act.put, List.setIfInBounds_toArray, List.set_cons_zero, List.set_cons_succ]
        refine wpAnyH_take (i := 7) (oi := _) (v := ?_) (by simp only [List.getElem?_toArray, List.getElem?_cons_succ, List.getElem?_cons_zero]; rfl) (by kernel_rfl) (by kernel_rfl) (by kernel_rfl) (by exact fun _ _ _ h => h) (Or.inl ⟨by rfl, ?hyd7⟩) (by assumption) ?red7
        case hyd7 => (rintro _ rfl; go_simp <;> with_reducible rfl)
        try simp only [Act.put, List.setIfInBounds_toArray, List.set_cons_zero, List.set_cons_succ]
        refine wpAnyH_ready (rs := [8]) (by kernel_rfl) (by simp) ?_
        refine AllReadyH.cons (o := _) (by simp only [List.getElem?_toArray, List.getElem?_cons_succ, List.getElem?_cons_zero]; rfl) (fun K hK => ?_) AllReadyH.nil
        go_simp
        refine (len_any w.drew S b k (D.out.keep fun _ _ => rfl)).mono ?_
        rintro e w' ⟨rfl, rfl⟩
        go_wp2
        refine hK.out _ _ rfl (fun hHeld2 => ?_)
        clear hK K hHeld
        try simp only [Act.put, List.setIfInBounds_toArray, List.set_cons_zero, List.set_cons_succ]
        refine wpAnyH_take (i := 9) (oi := _) (v := ?_) (by simp only [List.getElem?_toArray, List.getElem?_cons_succ, List.getElem?_cons_zero]; rfl) (by kernel_rfl) (by kernel_rfl) (by kernel_rfl) (by exact fun _ _ _ h => h) (Or.inl ⟨by rfl, ?hyd9⟩) (by assumption) ?red9
        case hyd9 => (rintro _ rfl; go_simp <;> with_reducible rfl)
        try simp only [Act.put, List.setIfInBounds_toArray, List.set_cons_zero, List.set_cons_succ]
        refine wpAnyH_take (i := 10) (oi := _) (v := ?_) (by simp only [List.getElem?_toArray, List.getElem?_cons_succ, List.getElem?_cons_zero]; rfl) (by kernel_rfl) (by kernel_rfl) (by kernel_rfl) (by exact fun _ _ _ h => h) (Or.inl ⟨by rfl, ?hyd10⟩) (by assumption) ?red10
        case hyd10 => (rintro _ rfl; go_simp <;> with_reducible rfl)
        try simp only [Act.put, List.setIfInBounds_toArray, List.set_cons_zero, List.set_cons_succ]
        refine wpAnyH_take (i := 11) (oi := _) (v := ?_) (by simp only [List.getElem?_toArray, List.getElem?_cons_succ, List.getElem?_cons_zero]; rfl) (by kernel_rfl) (by kernel_rfl) (by kernel_rfl) (by exact fun _ _ _ h => h) (Or.inl ⟨by rfl, ?hyd11⟩) (by assumption) ?red11
        case hyd11 => (rintro _ rfl; go_simp <;> with_reducible rfl)
        try simp only [Act.put, List.setIfInBounds_toArray, List.set_cons_zero, List.set_cons_succ]
        refine wpAnyH_take (i := 12) (oi := _) (v := ?_) (by simp only [List.getElem?_toArray, List.getElem?_cons_succ, List.getElem?_cons_zero]; rfl) (by kernel_rfl) (by kernel_rfl) (by kernel_rfl) (by exact fun _ _ _ h => h) (Or.inl ⟨by rfl, ?hyd12⟩) (by assumption) ?red12
        case hyd12 => (rintro _ rfl; go_simp <;> with_reducible rfl)
        try simp only [Act.put, List.setIfInBounds_toArray, List.set_cons_zero, List.set_cons_succ]
        refine wpAnyH_take (i := 13) (oi := _) (v := ?_) (by simp only [List.getElem?_toArray, List.getElem?_cons_succ, List.getElem?_cons_zero]; rfl) (by kernel_rfl) (by kernel_rfl) (by kernel_rfl) (by exact fun _ _ _ h => h) (Or.inl ⟨by rfl, ?hyd13⟩) (by assumption) ?red13
        case hyd13 => (rintro _ rfl; go_simp <;> with_reducible rfl)
        try simp only [Act.put, List.setIfInBounds_toArray, List.set_cons_zero, List.set_cons_succ]
        refine wpAnyH_take (i := 14) (oi := _) (v := ?_) (by simp only [List.getElem?_toArray, List.getElem?_cons_succ, List.getElem?_cons_zero]; rfl) (by kernel_rfl) (by kernel_rfl) (by kernel_rfl) (by exact fun _ _ _ h => h) (Or.inl ⟨by rfl, ?hyd14⟩) (by assumption) ?red14
        case hyd14 => (rintro _ rfl; go_simp <;> with_reducible rfl)
        try simp only [Act.put, List.setIfInBounds_toArray, List.set_cons_zero, List.set_cons_succ]
        refine wpAnyH_take (i := 15) (oi := _) (v := ?_) (by simp only [List.getElem?_toArray, List.getElem?_cons_succ, List.getElem?_cons_zero]; rfl) (by kernel_rfl) (by kernel_rfl) (by kernel_rfl) (by exact fun _ _ _ h => h) (Or.inl ⟨by rfl, ?hyd15⟩) (by assumption) ?red15
        case hyd15 => (rintro _ rfl; go_simp <;> with_reducible rfl)
        try simp only [Act.put, List.setIfInBounds_toArray, List.set_cons_zero, List.set_cons_succ]
        refine wpAnyH_take (i := 16) (oi := _) (v := ?_) (by simp only [List.getElem?_toArray, List.getElem?_cons_succ, List.getElem?_cons_zero]; rfl) (by kernel_rfl) (by kernel_rfl) (by kernel_rfl) (by exact fun _ _ _ h => h) (Or.inl ⟨by rfl, ?hyd16⟩) (by assumption) ?red16
        case hyd16 => (rintro _ rfl; go_simp <;> with_reducible rfl)
        try simp only [Act.put, List.setIfInBounds_toArray, List.set_cons_zero, List.set_cons_succ]
        refine wpAnyH_take (i := 17) (oi := _) (v := ?_) (by simp only [List.getElem?_toArray, List.getElem?_cons_succ, List.getElem?_cons_zero]; rfl) (by kernel_rfl) (by kernel_rfl) (by kernel_rfl) (by exact fun _ _ _ h => h) (Or.inl ⟨by rfl, ?hyd17⟩) (by assumption) ?red17
        case hyd17 => (rintro _ rfl; go_simp <;> with_reducible rfl)
        try simp only [Act.put, List.setIfInBounds_toArray, List.set_cons_zero, List.set_cons_succ]
        refine wpAnyH_take (i := 18) (oi := _) (v := ?_) (by simp only [List.getElem?_toArray, List.getElem?_cons_succ, List.getElem?_cons_zero]; rfl) (by kernel_rfl) (by kernel_rfl) (by kernel_rfl) (by exact fun _ _ _ h => h) (Or.inl ⟨by rfl, ?hyd18⟩) (by assumption) ?red18
        case hyd18 => (rintro _ rfl; go_simp <;> with_reducible rfl)
        try simp only [Act.put, List.setIfInBounds_toArray, List.set_cons_zero, List.set_cons_succ]
        refine wpAnyH_take (i := 19) (oi := _) (v := undef) (by simp only [List.getElem?_toArray, List.getElem?_cons_succ, List.getElem?_cons_zero]; rfl) (by kernel_rfl) (by kernel_rfl) (by kernel_rfl) (by exact fun _ _ _ h => h) (Or.inr ⟨by rfl, rfl⟩) (by assumption) ?_
        try simp only [Act.put, List.setIfInBounds_toArray, List.set_cons_zero, List.set_cons_succ]
        refine wpAnyH_take (i := 20) (oi := _) (v := undef) (by simp only [List.getElem?_toArray, List.getElem?_cons_succ, List.getElem?_cons_zero]; rfl) (by kernel_rfl) (by kernel_rfl) (by kernel_rfl) (by exact fun _ _ _ h => h) (Or.inr ⟨by rfl, rfl⟩) (by assumption) ?_
        try simp only [Act.put, List.setIfInBounds_toArray, List.set_cons_zero, List.set_cons_succ]
        refine wpAnyH_take (i := 21) (oi := _) (v := undef) (by simp only [List.getElem?_toArray, List.getElem?_cons_succ, List.getElem?_cons_zero]; rfl) (by kernel_rfl) (by kernel_rfl) (by kernel_rfl) (by exact fun _ _ _ h => h) (Or.inr ⟨by rfl, rfl⟩) (by assumption) ?_
        try simp only [Act.put, List.setIfInBounds_toArray, List.set_cons_zero, List.set_cons_succ]
        refine wpAnyH_take (i := 22) (oi := _) (v := undef) (by simp only [List.getElem?_toArray, List.getElem?_cons_succ, List.getElem?_cons_zero]; rfl) (by kernel_rfl) (by kernel_rfl) (by kernel_rfl) (by exact fun _ _ _ h => h) (Or.inr ⟨by rfl, rfl⟩) (by assumption) ?_
        try simp only [Act.put, List.setIfInBounds_toArray, List.set_cons_zero, List.set_cons_succ]
        refine wpAnyH_take (i := 23) (oi := _) (v := undef) (by simp only [List.getElem?_toArray, List.getElem?_cons_succ, List.getElem?_cons_zero]; rfl) (by kernel_rfl) (by kernel_rfl) (by kernel_rfl) (by exact fun _ _ _ h => h) (Or.inr ⟨by rfl, rfl⟩) (by assumption) ?_
        try simp only [Act.put, List.setIfInBounds_toArray, List.set_cons_zero, List.set_cons_succ]
        refine wpAnyH_take (i := 24) (oi := _) (v := undef) (by simp only [List.getElem?_toArray, List.getElem?_cons_succ, List.getElem?_cons_zero]; rfl) (by kernel_rfl) (by kernel_rfl) (by kernel_rfl) (by exact fun _ _ _ h => h) (Or.inr ⟨by rfl, rfl⟩) (by assumption) ?_
        try simp only [Act.put, List.setIfInBounds_toArray, List.set_cons_zero, List.set_cons_succ]
        refine wpAnyH_take (i := 25) (oi := _) (v := undef) (by simp only [List.getElem?_toArray, List.getElem?_cons_succ, List.getElem?_cons_zero]; rfl) (by kernel_rfl) (by kernel_rfl) (by kernel_rfl) (by exact fun _ _ _ h => h) (Or.inr ⟨by rfl, rfl⟩) (by assumption) ?_
        try simp only [Act.put, List.setIfInBounds_toArray, List.set_cons_zero, List.set_cons_succ]
        refine wpAnyH_take (i := 26) (oi := _) (v := undef) (by simp only [List.getElem?_toArray, List.getElem?_cons_succ, List.getElem?_cons_zero]; rfl) (by kernel_rfl) (by kernel_rfl) (by kernel_rfl) (by exact fun _ _ _ h => h) (Or.inr ⟨by rfl, rfl⟩) (by assumption) ?_
        try simp only [Act.put, List.setIfInBounds_toArray, List.set_cons_zero, List.set_cons_succ]
        refine wpAnyH_take (i := 27) (oi := _) (v := undef) (by simp only [List.getElem?_toArray, List.getElem?_cons_succ, List.getElem?_cons_zero]; rfl) (by kernel_rfl) (by kernel_rfl) (by kernel_rfl) (by exact fun _ _ _ h => h) (Or.inr ⟨by rfl, rfl⟩) (by assumption) ?_
        try simp only [Act.put, List.setIfInBounds_toArray, List.set_cons_zero, List.set_cons_succ]
        refine wpAnyH_take (i := 28) (oi := _) (v := undef) (by simp only [List.getElem?_toArray, List.getElem?_cons_succ, List.getElem?_cons_zero]; rfl) (by kernel_rfl) (by kernel_rfl) (by kernel_rfl) (by exact fun _ _ _ h => h) (Or.inr ⟨by rfl, rfl⟩) (by assumption) ?_
        try simp only [Act.put, List.setIfInBounds_toArray, List.set_cons_zero, List.set_cons_succ]
        refine wpAnyH_take (i := 29) (oi := _) (v := undef) (by simp only [List.getElem?_toArray, List.getElem?_cons_succ, List.getElem?_cons_zero]; rfl) (by kernel_rfl) (by kernel_rfl) (by kernel_rfl) (by exact fun _ _ _ h => h) (Or.inr ⟨by rfl, rfl⟩) (by assumption) ?_
        try simp only [Act.put, List.setIfInBounds_toArray, List.set_cons_zero, List.set_cons_succ]
        refine wpAnyH_take (i := 30) (oi := _) (v := ?_) (by simp only [List.getElem?_toArray, List.getElem?_cons_succ, List.getElem?_cons_zero]; rfl) (by kernel_rfl) (by kernel_rfl) (by kernel_rfl) (by exact fun _ _ _ h => h) (Or.inl ⟨by rfl, ?hyd30⟩) (by assumption) ?red30
        case hyd30 => (rintro _ rfl; go_simp <;> with_reducible rfl)
        try simp only [Act.put, List.setIfInBounds_toArray, List.set_cons_zero, List.set_cons_succ]
        refine wpAnyH_take (i := 31) (oi := _) (v := ?_) (by simp only [List.getElem?_toArray, List.getElem?_cons_succ, List.getElem?_cons_zero]; rfl) (by kernel_rfl) (by kernel_rfl) (by kernel_rfl) (by exact fun _ _ _ h => h) (Or.inl ⟨by rfl, ?hyd31⟩) (by assumption) ?red31
        case hyd31 => (rintro _ rfl; go_simp <;> with_reducible rfl)
        try simp only [Act.put, List.setIfInBounds_toArray, List.set_cons_zero, List.set_cons_succ]
        refine wpAnyH_take (i := 32) (oi := _) (v := ?_) (by simp only [List.getElem?_toArray, List.getElem?_cons_succ, List.getElem?_cons_zero]; rfl) (by kernel_rfl) (by kernel_rfl) (by kernel_rfl) (by exact fun _ _ _ h => h) (Or.inl ⟨by rfl, ?hyd32⟩) (by assumption) ?red32
        case hyd32 => (rintro _ rfl; go_simp <;> with_reducible rfl)
        try simp only [Act.put, List.setIfInBounds_toArray, List.set_cons_zero, List.set_cons_succ]
        refine wpAnyH_done (by kernel_rfl) ?_ _
        go_wp2
        go_ret
        exact ⟨rfl, (Below.refl _ _).drew⟩
end Go.Proofs.YtcjkbmmjpkghlaaGreat

/-
  Heads and lists as the code makes them; patches as they lie in memory.
-/
namespace Go.Proofs.YtcjkbmmjpkghlaaGreat
open Go.RowKit
attribute [local go_sem ↓] Go.wp_at_zero Go.wp_at_succ

/-- Are two slices of bytes alike? -/
theorem equal_any (l m : List UInt8) (A A' : Option Addr) (n c n' c' B B' : Nat) (w : World) (hn : l.length = n) (hn' : m.length = n') (hr : Rd w B A (bytesV l)) (hr' : Rd w B' A' (bytesV m)) :
    Calls Tryz.prog 114 #[.slice A n c, .slice A' n' c'] w fun e w' => e = .returned (.bool (l == m)) ∧ w = w' := by
  have h1 := str_of (c := c) hn hr
  have h2 := str_of (c := c') hn' hr'
  clear hr hr' hn hn'
  go_enter Tryz.func114, Tryz.ntmps114
  go_wp2
  go_ret
  exact ⟨rfl, rfl⟩

/-- A head's bytes. -/
theorem headOf_any (seq n : Nat) (hs : seq < 18446744073709551616) (hn : n < 65536) (w : World) :
    Calls Tryz.prog 171 #[.int .u64 (seq : Int), .int .i64 (n : Int)] w fun e w' => ∃ v, e = .returned v ∧ Made w (headB seq n) v w' := by
  obtain ⟨C, hC⟩ : ∃ C, C = (bytesV (List.replicate 60 0)).toArray := ⟨_, rfl⟩
  have hmk : ∀ u : World, (Instr.makeSlice 37 (.int .i64 60) (.int .i64 60)).run Tryz.prog u = .ok (.slice (some ⟨u.heap.size, 0, none⟩) 60 60) (u.alloc (.cells C 5)) := fun u => by
    rw [hC]; exact make_bytes 60 (by omega) u
  have hcv : IntKind.u64.wrap (n : Int) = (n : Int) := by rw [IntKind.wrap_u64]; omega
  have HC := Lib.hid hC
  have Hs := Lib.hid hs
  have Hn := Lib.hid hn
  clear hs hn hC
  have hB0 : Rd (w.alloc (.cells C 5)) (w.alloc (.cells C 5)).heap.size (some ⟨w.heap.size, 0, none⟩) (bytesV (List.replicate 60 0)) := by
    have h := (Bk.new w 5 (bytesV (List.replicate 60 0))).rd 60 0
    rw [← HC.out, List.drop_zero, List.take_of_length_le (by simp [length_bytesV])] at h
    exact h
  have b0 : Below w.heap.size w (w.alloc (.cells C 5)) := (Below.refl _ _).alloc (Nat.le_refl _) _
  have HB0 := Lib.hid hB0
  have Hb0 := Lib.hid b0
  clear hB0 b0
  go_enter Tryz.func171, Tryz.ntmps171
  go_wp2_with fail
  refine (set_ok (List.replicate 60 0) (some ⟨w.heap.size, 0, none⟩) 60 60 0 8 seq _ (by simp) HB0.out (by omega) (by omega) (by omega) (by omega) Hs.out (by have := Hs.out; simp [fitB]; omega)).mono ?_
  rintro e w1 ⟨v1, rfl, hM1⟩
  have HM1 := Lib.hid hM1
  obtain ⟨hM1o, hM1b⟩ := hM1
  have hl1' : (put (List.replicate 60 (0 : UInt8)) 0 (digs seq 8)).length = 60 := by rw [length_put _ _ _ (by simp [length_digs])]; simp
  rw [hl1'] at hM1o
  obtain ⟨hl1, A1, c1, rfl, hc1, hc1m, hr1⟩ := own_rd hM1o
  have Hr1 := Lib.hid hr1
  have Hb1 := Lib.hid (Hb0.out.trans (hM1b.mono (by simp)))
  have Hl1 := Lib.hid hl1'
  clear hM1o hM1b hl1 hc1m hr1 hl1' HM1
  go_wp2_with fail
  refine (set_ok (put (List.replicate 60 0) 0 (digs seq 8)) A1 60 c1 8 2 n _ Hl1.out Hr1.out (by omega) (by omega) (by omega) (by omega) (by have := Hn.out; omega) (by have := Hn.out; simp [fitB]; omega)).mono ?_
  rintro e w2 ⟨v2, rfl, hM2⟩
  obtain ⟨hM2o, hM2b⟩ := hM2
  have hl2' : (put (put (List.replicate 60 (0 : UInt8)) 0 (digs seq 8)) 8 (digs n 2)).length = 60 := by rw [length_put _ _ _ (by rw [Hl1.out, length_digs]; omega), Hl1.out]
  rw [hl2'] at hM2o
  obtain ⟨hl2, A2, c2, rfl, hc2, hc2m, hr2⟩ := own_rd hM2o
  have Hr2 := Lib.hid hr2
  have Hb2 := Lib.hid (Hb1.out.trans (hM2b.mono Hb1.out.size))
  have Hl2 := Lib.hid hl2'
  clear hM2o hM2b hl2 hc2m hr2 hl2'
  go_wp2_with fail
  refine (seal_any _ A2 60 c2 _ Hl2.out Hr2.out hc2 (by omega)).mono ?_
  rintro e w3 ⟨v3, rfl, hM3⟩
  obtain ⟨hM3o, hM3b⟩ := hM3
  have H3 : Hid (Made w (headB seq n) v3 w3) := ⟨own_mono hM3o Hb2.out.size, Hb2.out.trans (hM3b.mono Hb2.out.size)⟩
  clear hM3o hM3b
  go_wp2_with fail
  go_ret
  exact ⟨_, rfl, H3.out⟩

/-- Patches, as they lie, in the blocks of T. -/
def Pats (w : World) (T : Nat → Prop) (A : Option Addr) (L : List (Int × Sx)) : Prop :=
  ∀ i p, L[i]? = some p → ∃ b o ba oa cp, A = some ⟨b, o, none⟩ ∧ T b ∧ T ba ∧ b < w.heap.size ∧ ba < w.heap.size ∧ 64 ≤ cp ∧ w.cell? ⟨b, o + i * 3, none⟩ = some (.int .i64 p.1) ∧
    w.cell? ⟨b, o + i * 3 + 1, none⟩ = some (.slice (some ⟨ba, oa, none⟩) 64 cp) ∧ w.cell? ⟨b, o + i * 3 + 2, none⟩ = some (.int .u16 (p.2.t : Int)) ∧ w.rangeAt ba oa (bytesV p.2.b)
theorem Pats.keep {w w' : World} {T : Nat → Prop} {A : Option Addr} {L : List (Int × Sx)} (h : Pats w T A L) (hs : w.heap.size ≤ w'.heap.size) (hk : ∀ i, T i → i < w.heap.size → w'.heap[i]? = w.heap[i]?) : Pats w' T A L := fun i p hp => by
  obtain ⟨b, o, ba, oa, cp, h1, h2, h3, h4, h5, h6, h7, h8, h9, h10⟩ := h i p hp
  have hb := hk b h2 h4
  exact ⟨b, o, ba, oa, cp, h1, h2, h3, by omega, by omega, h6, (World.cell?_of_block (a := ⟨b, _, none⟩) hb).trans h7, (World.cell?_of_block (a := ⟨b, _, none⟩) hb).trans h8, (World.cell?_of_block (a := ⟨b, _, none⟩) hb).trans h9, range_of_block h10 (hk ba h3 h5)⟩
theorem Pats.below {w w' : World} {T : Nat → Prop} {A : Option Addr} {L : List (Int × Sx)} (h : Pats w T A L) (hb : Below w.heap.size w w') : Pats w' T A L := h.keep hb.size fun i _ hi => hb.block i hi
theorem Pats.more {w : World} {T T' : Nat → Prop} {A : Option Addr} {L : List (Int × Sx)} (h : Pats w T A L) (hT : ∀ i, i < w.heap.size → T i → T' i) : Pats w T' A L := fun i p hp => by
  obtain ⟨b, o, ba, oa, cp, h1, h2, h3, h4, h5, h6⟩ := h i p hp
  exact ⟨b, o, ba, oa, cp, h1, hT b h4 h2, hT ba h5 h3, h4, h5, h6⟩
def ints (g : List (Nat × Sx)) : List (Int × Sx) := g.map fun p => ((p.1 : Int), p.2)
theorem ints_get {g : List (Nat × Sx)} {i : Nat} {p : Nat × Sx} (h : g[i]? = some p) : (ints g)[i]? = some ((p.1 : Int), p.2) := by rw [ints, List.getElem?_map, h]; rfl
theorem words_fit (g : List (Nat × Sx)) (h : ∀ p ∈ g, p.1 < 65536) : ∀ x ∈ words g, x < 65536 := fun x hx => by
  simp only [words, List.mem_flatMap, List.mem_cons, List.not_mem_nil, or_false] at hx
  obtain ⟨p, hp, rfl | rfl⟩ := hx
  · exact h p hp
  · exact p.2.ht
theorem words_take (g : List (Nat × Sx)) (j : Nat) (p : Nat × Sx) (h : g[j]? = some p) : words (g.take (j + 1)) = words (g.take j) ++ [p.1, p.2.t] := by
  obtain ⟨hj, rfl⟩ := List.getElem?_eq_some_iff.1 h
  rw [List.take_succ_eq_append_getElem hj, words_append]
  rfl

set_option maxHeartbeats 800000 in
/-- A list's bytes. -/
theorem listOf_any (g : List (Nat × Sx)) (T : Nat → Prop) (A : Option Addr) (m c : Nat) (w : World) (hL : Pats w T A (ints g)) (hm : g.length = m) (h15 : m ≤ 15) (hf : ∀ p ∈ g, p.1 < 65536) :
    Calls Tryz.prog 170 #[.slice A m c] w fun e w' => ∃ v, e = .returned v ∧ Made w (listB g) v w' := by
  have HL := Lib.hid hL
  have Hm := Lib.hid hm
  have Hf := Lib.hid hf
  clear hL hm hf
  go_enter Tryz.func170, Tryz.ntmps170
  go_wp2
  go_loopw [3, 5, 10] (fun v _ i wr => ∃ j : Nat, j ≤ m ∧ i = .int .i64 (j : Int) ∧ wr.ownsRow w.heap.size 41 1 v (2 * j) (numsV (words (g.take j))) ∧ Below w.heap.size w wr) (fun _ _ i _ => m - (intOf i).toNat)
  case atStart => exact ⟨0, Nat.zero_le _, rfl, World.ownsRow_nil _ _ _ _, Below.refl _ _⟩
  case round =>
    obtain ⟨j, hj, rfl, hown, hbe⟩ := hrel
    have Hbe := Lib.hid hbe
    have Hown := Lib.hid hown
    clear hbe hown
    by_cases hlt : j < m
    · obtain ⟨p, hp⟩ : ∃ p, g[j]? = some p := ⟨_, List.getElem?_eq_getElem (by rw [Hm.out]; exact hlt)⟩
      obtain ⟨b, o, ba, oa, cp, rfl, _, _, hb, _, _, c0, c1, c2, _⟩ := (HL.out.below Hbe.out) j _ (ints_get hp)
      have hpf := Hf.out p (List.mem_of_getElem? hp)
      have htf := p.2.ht
      have Hw := Lib.hid (words_take g j p hp)
      simp only at c0 c2
      obtain ⟨s, hs⟩ : ∃ s, s = p.1 := ⟨_, rfl⟩
      obtain ⟨t, ht⟩ : ∃ t, t = p.2.t := ⟨_, rfl⟩
      rw [← hs, ← ht] at Hw
      rw [← hs] at c0 hpf
      rw [← ht] at c2 htf
      have e1 : IntKind.u64.wrap (s : Int) = (s : Int) := by rw [IntKind.wrap_u64]; omega
      have e2 : IntKind.u64.wrap (t : Int) = (t : Int) := by rw [IntKind.wrap_u64]; omega
      have hsz := Hbe.out.size
      clear hp hs ht hpf htf hb
      go_wp2_with (at_builtin; refine wpList_app23 _ rfl (.tmp 14) (.tmp 21) rfl w.heap.size _ (2 * j) _ rfl ((Hown.out.alloc _).alloc _) (wr.heap.size + 2) _ 2 2 [s, t] rfl rfl ?c1 (by omega) (by simp; omega) ?_)
      case c1 => exact .inr ⟨wr.heap.size + 1, 0, rfl, by simp, fun i u hu => by
        match i, hu with
        | 0, hu => rw [World.cell?_alloc_at _ _ _ _ (by simp)]; simpa [numsV, numV] using hu
        | 1, hu => rw [World.cell?_alloc_at _ _ _ _ (by simp)]; simpa [numsV, numV] using hu
        | i + 2, hu => simp [numsV] at hu⟩
      intro v' w1 hown' hg'
      have hbe' : Below w.heap.size w w1 := ((Hbe.out.alloc hsz _).alloc (by simp; omega) _).grown hg' (by simp; omega) (fun k hk => (Hown.out.lt k hk).1)
      rw [← Hw.out] at hown'
      have HO := Lib.hid hown'
      have HB := Lib.hid hbe'
      clear hown' hbe' hg'
      go_wp2
      go_roundw
      case rel => exact ⟨j + 1, by omega, by go_num, HO.out, HB.out⟩
      case measure => simp [intOf]; omega
    · obtain rfl : j = m := by omega
      have hall : g.take j = g := by rw [← Hm.out]; exact List.take_length
      rw [hall] at Hown
      obtain ⟨hl, A1, c1, rfl, hc1, hc1m, hr1⟩ := own_rd Hown.out
      have Hr1 := Lib.hid hr1
      have hfw : (words g).all (fitB · 2) = true := by
        rw [List.all_eq_true]
        intro x hx
        have := words_fit g Hf.out x hx
        simp [fitB]; omega
      have hlw : (words g).length = 2 * j := by rw [length_words, Hm.out]
      have hlay : layB 2 (words g) = true := by
        simp only [layB, hfw, hlw, Bool.and_true, decide_eq_true_eq]; omega
      have Hlay := Lib.hid hlay
      have Hlw := Lib.hid hlw
      have Hwf : Hid (∀ x ∈ words g, x < 18446744073709551616) := fun x hx => by have := words_fit g Hf.out x hx; omega
      clear hl hr1 hall hlay hlw hc1m Hown hlt hj hfw
      go_wp2_with fail
      refine (lay_any (words g) A1 (2 * j) c1 2 _ Hlw.out Hr1.out (by omega) (by omega) Hwf.out).mono ?_
      rintro e w2 ⟨hyes, _⟩
      obtain ⟨v2, rfl, hM2o, hM2b⟩ := hyes Hlay.out
      have hl2 : (layl 2 (words g)).length = 4 * j := by rw [length_layl, Hlw.out]; omega
      rw [hl2] at hM2o
      obtain ⟨_, A2, c2, rfl, hc2, hc2m, hr2⟩ := own_rd hM2o
      have Hr2 := Lib.hid hr2
      have Hb2 := Lib.hid (Hbe.out.trans (hM2b.mono Hbe.out.size))
      have Hl2 := Lib.hid hl2
      clear hyes hM2o hM2b hr2 hl2 hc2m
      go_wp2_with fail
      refine (fill_ok (layl 2 (words g)) A2 (4 * j) c2 64 _ Hl2.out Hr2.out (by omega) (by omega)).mono ?_
      rintro e w3 ⟨v3, rfl, hM3⟩
      rw [← listB_eq g (by rw [Hm.out]; exact h15)] at hM3
      obtain ⟨hM3o, hM3b⟩ := hM3
      have H3 : Hid (Made w (listB g) v3 w3) := ⟨own_mono hM3o Hb2.out.size, Hb2.out.trans (hM3b.mono Hb2.out.size)⟩
      clear hM3o hM3b
      go_wp2_with fail
      go_ret
      exact ⟨_, rfl, H3.out⟩
end Go.Proofs.YtcjkbmmjpkghlaaGreat

/-
  The one patch that makes a head.
-/
namespace Go.Proofs.YtcjkbmmjpkghlaaGreat
open Go.RowKit
attribute [local go_sem ↓] Go.wp_at_zero Go.wp_at_succ

theorem made_slice {w w' : World} {l : List UInt8} {v : Value} {n : Nat} (h : Made w l v w') (hl : l.length = n) (h0 : 0 < n) : ∃ g c, v = .slice (some ⟨g, 0, none⟩) n c ∧ n ≤ c ∧ w.heap.size ≤ g ∧ g < w'.heap.size ∧ w'.rangeAt g 0 (bytesV l) := by
  subst hl
  obtain ⟨_, hn⟩ := h.1
  rcases hn with ⟨_, h1⟩ | ⟨g, c, cur, rfl, h1, h2, h3, h4, h5, h6⟩
  · omega
  · have hlt : g < w'.heap.size := (Array.getElem?_eq_some_iff.1 h2).1
    refine ⟨g, c, rfl, h3, h1, hlt, fun j u hu => ?_⟩
    have hj := (List.getElem?_eq_some_iff.1 hu).1
    rw [length_bytesV] at hj
    rw [cell_of_row _ g _ cur _ (0, 0) h2, Nat.zero_add, ← hu, ← h6, List.getElem?_take, if_pos (by omega)]
    simp

/-- One patch, just made. -/
theorem pats_one (w1 : World) (T : Nat → Prop) (g1 cc : Nat) (at_ : Int) (c : Sx) (hT : T w1.heap.size) (hg : T g1) (hlt : g1 < w1.heap.size) (hcc : 64 ≤ cc) (hr : w1.rangeAt g1 0 (bytesV c.b)) :
    Pats (w1.alloc (.cells #[.int .i64 at_, .slice (some ⟨g1, 0, none⟩) 64 cc, .int .u16 (c.t : Int)] 110)) T (some ⟨w1.heap.size, 0, none⟩) [(at_, c)] := fun i p hp => by
  cases i with
  | succ i => simp at hp
  | zero =>
    obtain rfl : (at_, c) = p := by simpa using hp
    have hB := Bk.new w1 110 [.int .i64 at_, .slice (some ⟨g1, 0, none⟩) 64 cc, .int .u16 (c.t : Int)]
    exact ⟨w1.heap.size, 0, g1, 0, cc, rfl, hT, hg, by simp, by simp; omega, hcc, hB.cell 0, hB.cell 1, hB.cell 2, World.rangeAt_alloc hr _⟩

set_option maxHeartbeats 800000 in
theorem head_any (w : World) (bj b start n sq seq cnt : Nat) (hJ : JB w bj b start n sq) (hs : seq < 18446744073709551616) (hn : cnt < 65536) :
    Calls Tryz.prog 111 #[.pointer (some ⟨bj, 0, none⟩), .int .u64 (seq : Int), .int .i64 (cnt : Int)] w fun e w' => ∃ g, e = .returned (.slice (some ⟨g, 0, none⟩) 1 1) ∧ Pats w' (fun i => w.heap.size ≤ i) (some ⟨g, 0, none⟩) [((start : Int), headS seq cnt)] ∧ Below w.heap.size w w' := by
  have c1 := hJ.cell 1
  have hlt := hJ.lt
  have Hs := Lib.hid hs
  have Hn := Lib.hid hn
  have Hlt := Lib.hid hlt
  clear hJ hs hn hlt
  go_enter Tryz.func111, Tryz.ntmps111
  go_wp2
  go_region_with (first | (go_at_call 171; (refine (headOf_any seq cnt Hs.out Hn.out _).mono ?_); rintro e w1 ⟨v1, rfl, hM1⟩; have hb1 := Lib.hid hM1.2; obtain ⟨g1, cc, rfl, hcc, hg1, hg1', hr1⟩ := made_slice hM1 (length_headB _ _) (by omega); have HR := Lib.hid hr1; have c1' := (hM1.2.cell (p := ⟨bj, 1, none⟩) Hlt.out).trans (by assumption); clear hM1))
  all_goals (clear c1; clear hr1; go_wp2)
  all_goals go_ret
  all_goals refine ⟨w1.heap.size, rfl, pats_one w1 _ g1 cc _ (headS seq cnt) (Nat.le_trans hb1.out.size (Nat.le_refl _)) hg1 hg1' hcc HR.out, ?_⟩
  all_goals exact ((Below.refl _ w).drew.trans hb1.out).alloc hb1.out.size _
end Go.Proofs.YtcjkbmmjpkghlaaGreat

/-
  Patches are written, in order, and made safe.
-/
namespace Go.Proofs.YtcjkbmmjpkghlaaGreat
open Go.RowKit
attribute [local go_sem ↓] Go.wp_at_zero Go.wp_at_succ

theorem Dk.wrote_safe {α : Type} (k : Dk α) (s : Nat) (c : α) : (k.wrote s c).safe = k.safe := by simp only [Dk.wrote, Dk.op_safe]
theorem Dk.wrote_un {α : Type} (k : Dk α) (s : Nat) (c : α) : (k.wrote s c).un = k.un ++ [(s, c)] := rfl
theorem Dk.flush_len {α : Type} (k : Dk α) : k.flush.safe.length = k.safe.length := by
  unfold Dk.flush
  split
  · rw [Dk.op_safe]
  · exact length_puts _ _
theorem Dk.flush_un {α : Type} (k : Dk α) : k.flush.un.length ≤ k.un.length := by
  unfold Dk.flush
  split
  · rw [Dk.op_un]; exact Nat.le_refl _
  · exact Nat.zero_le _
theorem Dk.writes_len {α : Type} (l : List (Nat × α)) : ∀ k : Dk α, (k.writes l).2.safe.length = k.safe.length := by
  induction l with
  | nil => exact fun k => Dk.flush_len k
  | cons p r ih =>
    intro k
    unfold Dk.writes
    split
    · simp only [Dk.op_safe]
    · rw [ih, Dk.wrote_safe]
theorem Dk.writes_un {α : Type} (l : List (Nat × α)) : ∀ k : Dk α, (k.writes l).2.un.length ≤ k.un.length + l.length := by
  induction l with
  | nil => exact fun k => Dk.flush_un k
  | cons p r ih =>
    intro k
    unfold Dk.writes
    split
    · simp only [Dk.op_un]; omega
    · refine Nat.le_trans (ih _) ?_
      rw [Dk.wrote_un, List.length_append, List.length_singleton, List.length_cons]
      omega
theorem Turned.trans {α : Type} {f : α → List Value} {S S1 : Nat → Prop} {w w1 w2 : World} {b : Nat} {k : Dk α} (hK : Kept S w w1) (hS : ∀ t, S1 t → S t ∨ w.heap.size ≤ t) (hT : Turned f S1 w1 w2 b k) : Turned f S w w2 b k := by
  obtain ⟨hK2, S2, hD2, hS2⟩ := hT
  exact ⟨hK.trans hK2 hS, S2, hD2, fun t ht => (hS2 t ht).elim (hS t) fun h => .inr (Nat.le_trans hK.size h)⟩

section
variable {w : World} {S T : Nat → Prop} {bj b start n seq : Nat} {k : Dk Sx} {A : Option Addr} {g : List (Nat × Sx)}

set_option maxRecDepth 100000 in
set_option maxHeartbeats 1600000 in
theorem jwrite_any (hJ : JB w bj b start n seq) (hD : IsDisk sx w S b k) (hb : ¬ S bj) (hL : Pats w T A (ints g)) (hT : ∀ t, T t → ¬ S t) (m c : Nat) (hm : g.length = m) (hin : ∀ p ∈ g, p.1 < k.safe.length) (hun : k.un.length + m ≤ 1000000) :
    Calls Tryz.prog 109 #[.pointer (some ⟨bj, 0, none⟩), .slice A m c] w fun e w' => e = .returned (.int .i64 (k.writes g).1) ∧ Turned sx S w w' b (k.writes g).2 := by
  have HJ := Lib.hid hJ
  have HD := Lib.hid hD
  have Hb := Lib.hid hb
  have HL := Lib.hid hL
  have HT := Lib.hid hT
  have Hm := Lib.hid hm
  have Hin := Lib.hid hin
  have Hun := Lib.hid hun
  have Hlt := Lib.hid hJ.lt
  have hmm : m ≤ 1000000 := by omega
  clear hJ hD hb hL hT hm hin hun
  go_enter Tryz.func109, Tryz.ntmps109
  go_wp2
  go_loopw [6, 7, 10] (fun _ _ i wr => ∃ (j : Nat) (S' : Nat → Prop) (kj : Dk Sx), j ≤ m ∧ i = .int .i64 (j : Int) ∧ IsDisk sx wr S' b kj ∧ Kept S w wr ∧ (∀ t, S' t → S t ∨ w.heap.size ≤ t) ∧
    k.writes g = kj.writes (g.drop j) ∧ kj.un.length ≤ k.un.length + j ∧ kj.safe.length = k.safe.length) (fun _ _ i _ => m - (intOf i).toNat)
  case atStart => exact ⟨0, S, k, Nat.zero_le _, rfl, HD.out, Kept.refl _ _, fun t ht => .inl ht, rfl, Nat.le_refl _, rfl⟩
  case round =>
    obtain ⟨j, S', kj, hj, rfl, hD, hK, hS, hw, hu, hl⟩ := hrel
    have HDj := Lib.hid hD
    have HK := Lib.hid hK
    have HS := Lib.hid hS
    have Hw := Lib.hid hw
    have Hu := Lib.hid hu
    have Hl := Lib.hid hl
    have hJr : JB wr bj b start n seq := (hK.block bj Hlt.out Hb.out).trans HJ.out
    have hsz := hK.size
    have cj := hJr.cell 0
    have hnot : ∀ t, T t → t < w.heap.size → ¬ S' t := fun t ht hlt hs => by
      rcases hS t hs with h | h
      · exact HT.out t ht h
      · omega
    have hnj : Hid (¬ S' bj) := fun hs => by
      rcases hS bj hs with h | h
      · exact Hb.out h
      · have := Hlt.out; omega
    have Hnot := Lib.hid hnot
    have hLr : Pats wr (fun t => T t ∧ t < w.heap.size) A (ints g) := (HL.out.more fun i hi ht => ⟨ht, hi⟩).keep hsz fun i hi _ => hK.block i hi.2 fun hs => HT.out i hi.1 hs
    clear hD hK hS hw hu hl hJr hnot
    by_cases hlt : j < m
    · obtain ⟨p, hp⟩ : ∃ p, g[j]? = some p := ⟨_, List.getElem?_eq_getElem (by rw [Hm.out]; exact hlt)⟩
      obtain ⟨b1, o, ba, oa, cp, rfl, hT1, hT2, hb1, hb2, hcp, c0, c1, c2, hr⟩ := hLr j _ (ints_get hp)
      have hdrop : Hid (g.drop j = p :: g.drop (j + 1)) := by
        obtain ⟨h1, h2⟩ := List.getElem?_eq_some_iff.1 hp
        show _ = _
        rw [← h2, List.getElem_cons_drop]
      have hps := Hin.out p (List.mem_of_getElem? hp)
      simp only at c0 c2
      obtain ⟨s, x⟩ := p
      simp only at c0 c1 c2 hr hps hdrop
      have hps' : Hid (s < kj.safe.length) := by show _ < _; rw [Hl.out]; exact hps
      have hxt := x.ht
      obtain ⟨t, ht⟩ : ∃ t, t = x.t := ⟨_, rfl⟩
      rw [← ht] at c2 hxt
      have Ht := Lib.hid ht
      have Hr := Lib.hid hr
      have Hba := Lib.hid (Hnot.out ba hT2.1 hT2.2)
      have Hb2 := Lib.hid hb2
      have hcj : bj < wr.heap.size := by have := Hlt.out; omega
      have Hcj := Lib.hid hcj
      clear hp ht hr hps hT1 hT2 hb2 hcj hLr
      cases hoff : kj.off
      · have Hoff := Lib.hid hoff
        clear hoff
        go_wp2
        have d0 := (Bk.new wr 110 [.int .i64 (s : Int), .slice (some ⟨ba, oa, none⟩) 64 cp, .int .u16 (t : Int)])
        have hbW : Below wr.heap.size wr (wr.alloc (.cells #[.int .i64 (s : Int), .slice (some ⟨ba, oa, none⟩) 64 cp, .int .u16 (t : Int)] 110)) := (Below.refl _ wr).alloc (Nat.le_refl _) _
        have hW1 : (wr.alloc (.cells #[.int .i64 (s : Int), .slice (some ⟨ba, oa, none⟩) 64 cp, .int .u16 (t : Int)] 110)).heap.size = wr.heap.size + 1 := by simp
        have hnW : Hid (¬ S' wr.heap.size) := fun hs => by have := HDj.out.lt hs; omega
        have e0 := d0.cell 0
        have e1 := d0.cell 1
        have e2 := d0.cell 2
        have cjW := (hbW.cell (p := ⟨bj, 0, none⟩) Hcj.out).trans cj
        have HW := Lib.hid hbW
        have HW1 := Lib.hid hW1
        clear d0 hbW cj c0 c1 c2 hW1
        generalize wr.alloc (.cells #[.int .i64 (s : Int), .slice (some ⟨ba, oa, none⟩) 64 cp, .int .u16 (t : Int)] 110) = W at *
        have DW := Lib.hid (HDj.out.below HW.out)
        have HrW := Lib.hid (range_of_block Hr.out (HW.out.block ba Hb2.out))
        have HbW : Hid (ba < W.heap.size) := Nat.lt_of_lt_of_le Hb2.out HW.out.size
        have HunW : Hid (kj.un.length ≤ 1073741824) := by have := Hu.out; have := Hun.out; show _ ≤ _; omega
        obtain ⟨gp, hgp⟩ : ∃ gp, gp = wr.heap.size := ⟨_, rfl⟩
        have HcjW : Hid (bj < W.heap.size) := Nat.lt_of_lt_of_le Hcj.out HW.out.size
        have HgW : Hid (wr.heap.size < W.heap.size) := by rw [HW1.out]; exact Nat.lt_succ_self _
        go_region_held3 (fun w' : World => w'.cell? ⟨bj, 0, none⟩ = some (.pointer (some ⟨b, 0, none⟩)) ∧ w'.cell? ⟨wr.heap.size, 0, none⟩ = some (.int .i64 (s : Int)) ∧ w'.cell? ⟨wr.heap.size, 1, none⟩ = some (.slice (some ⟨ba, oa, none⟩) 64 cp) ∧ w'.cell? ⟨wr.heap.size, 2, none⟩ = some (.int .u16 (t : Int)))
          (first | exact ⟨cjW, e0, e1, e2⟩ | assumption)
          (first | (go_at_call 95; (refine (write_any sx_enc W.drew S' b kj (DW.out.keep fun _ _ => rfl) s hps'.out ba oa cp (bytesV x.b) (t : Int) x (by rw [Ht.out]; rfl) (by rw [length_bytesV, x.hb]) (range_of_block HrW.out rfl) Hba.out HbW.out HunW.out Hoff.out).mono ?_); rintro e w2 ⟨rfl, hT⟩; have T2 := Lib.hid hT; have hkp : ∀ i, i < W.heap.size → ¬ S' i → w2.heap[i]? = W.heap[i]? := fun i hi hs => hT.1.block i hi hs; have k0 := (World.cell?_of_block (a := ⟨bj, 0, none⟩) (hkp bj HcjW.out hnj.out)).trans cjW; have k1 := (World.cell?_of_block (a := ⟨wr.heap.size, 0, none⟩) (hkp _ HgW.out hnW.out)).trans e0; have k2 := (World.cell?_of_block (a := ⟨wr.heap.size, 1, none⟩) (hkp _ HgW.out hnW.out)).trans e1; have k3 := (World.cell?_of_block (a := ⟨wr.heap.size, 2, none⟩) (hkp _ HgW.out hnW.out)).trans e2; have kk := And.intro k0 (And.intro k1 (And.intro k2 k3)); clear hT hkp))
        go_wp2
        obtain ⟨hK2, S2, hD2, hS2⟩ := T2.out
        have hKW : Kept S w W.drew := (HK.out.trans (Kept.of_below (S := S) HW.out) fun i hi => .inl hi).drew
        have A1 := Lib.hid (hKW.trans hK2 HS.out)
        have A2 : Hid (∀ t, S2 t → S t ∨ w.heap.size ≤ t) := fun t ht => (hS2 t ht).elim (HS.out t) fun h => .inr (Nat.le_trans hKW.size h)
        have A3 := Lib.hid hD2
        have A4 : Hid (k.writes g = (kj.wrote s x).writes (g.drop (j + 1))) := by
          show _ = _
          rw [Hw.out, hdrop.out, Dk.writes, Hoff.out]; rfl
        have A5 : Hid ((kj.wrote s x).un.length ≤ k.un.length + (j + 1)) := by
          show _ ≤ _
          rw [Dk.wrote_un, List.length_append, List.length_singleton]; have := Hu.out; omega
        have A6 : Hid ((kj.wrote s x).safe.length = k.safe.length) := by
          show _ = _
          rw [Dk.wrote_safe]; exact Hl.out
        clear hK2 hD2 hS2 hKW k0 k1 k2 k3 kk cjW e0 e1 e2 T2
        go_roundw
        case rel => exact ⟨j + 1, S2, kj.wrote s x, by omega, by go_num, A3.out, A1.out, A2.out, A4.out, A5.out, A6.out⟩
        case measure => simp [intOf]; omega
      · have Hoff := Lib.hid hoff
        clear hoff
        go_wp2
        have d0 := (Bk.new wr 110 [.int .i64 (s : Int), .slice (some ⟨ba, oa, none⟩) 64 cp, .int .u16 (t : Int)])
        have hbW : Below wr.heap.size wr (wr.alloc (.cells #[.int .i64 (s : Int), .slice (some ⟨ba, oa, none⟩) 64 cp, .int .u16 (t : Int)] 110)) := (Below.refl _ wr).alloc (Nat.le_refl _) _
        have hW1 : (wr.alloc (.cells #[.int .i64 (s : Int), .slice (some ⟨ba, oa, none⟩) 64 cp, .int .u16 (t : Int)] 110)).heap.size = wr.heap.size + 1 := by simp
        have hnW : Hid (¬ S' wr.heap.size) := fun hs => by have := HDj.out.lt hs; omega
        have e0 := d0.cell 0
        have e1 := d0.cell 1
        have e2 := d0.cell 2
        have cjW := (hbW.cell (p := ⟨bj, 0, none⟩) Hcj.out).trans cj
        have HW := Lib.hid hbW
        have HW1 := Lib.hid hW1
        clear d0 hbW cj c0 c1 c2 hW1
        generalize wr.alloc (.cells #[.int .i64 (s : Int), .slice (some ⟨ba, oa, none⟩) 64 cp, .int .u16 (t : Int)] 110) = W at *
        have DW := Lib.hid (HDj.out.below HW.out)
        have HrW := Lib.hid (range_of_block Hr.out (HW.out.block ba Hb2.out))
        have HbW : Hid (ba < W.heap.size) := Nat.lt_of_lt_of_le Hb2.out HW.out.size
        have HunW : Hid (kj.un.length ≤ 1073741824) := by have := Hu.out; have := Hun.out; show _ ≤ _; omega
        obtain ⟨gp, hgp⟩ : ∃ gp, gp = wr.heap.size := ⟨_, rfl⟩
        have HcjW : Hid (bj < W.heap.size) := Nat.lt_of_lt_of_le Hcj.out HW.out.size
        have HgW : Hid (wr.heap.size < W.heap.size) := by rw [HW1.out]; exact Nat.lt_succ_self _
        go_region_held3 (fun w' : World => w'.cell? ⟨bj, 0, none⟩ = some (.pointer (some ⟨b, 0, none⟩)) ∧ w'.cell? ⟨wr.heap.size, 0, none⟩ = some (.int .i64 (s : Int)) ∧ w'.cell? ⟨wr.heap.size, 1, none⟩ = some (.slice (some ⟨ba, oa, none⟩) 64 cp) ∧ w'.cell? ⟨wr.heap.size, 2, none⟩ = some (.int .u16 (t : Int)))
          (first | exact ⟨cjW, e0, e1, e2⟩ | assumption)
          (first | (go_at_call 95; (refine (write_off W.drew S' b kj (DW.out.keep fun _ _ => rfl) s hps'.out (some ⟨ba, oa, none⟩) cp (.int .u16 (t : Int)) Hoff.out).mono ?_); rintro e w2 ⟨rfl, hT⟩; have T2 := Lib.hid hT; have hkp : ∀ i, i < W.heap.size → ¬ S' i → w2.heap[i]? = W.heap[i]? := fun i hi hs => hT.1.block i hi hs; have k0 := (World.cell?_of_block (a := ⟨bj, 0, none⟩) (hkp bj HcjW.out hnj.out)).trans cjW; have k1 := (World.cell?_of_block (a := ⟨wr.heap.size, 0, none⟩) (hkp _ HgW.out hnW.out)).trans e0; have k2 := (World.cell?_of_block (a := ⟨wr.heap.size, 1, none⟩) (hkp _ HgW.out hnW.out)).trans e1; have k3 := (World.cell?_of_block (a := ⟨wr.heap.size, 2, none⟩) (hkp _ HgW.out hnW.out)).trans e2; have kk := And.intro k0 (And.intro k1 (And.intro k2 k3)); clear hT hkp))
        go_wp2
        obtain ⟨hK2, S2, hD2, hS2⟩ := T2.out
        have hKW : Kept S w W.drew := (HK.out.trans (Kept.of_below (S := S) HW.out) fun i hi => .inl hi).drew
        have A4 : k.writes g = (6, kj.op) := by
          rw [Hw.out, hdrop.out, Dk.writes, Hoff.out]; rfl
        go_ret
        rw [A4]
        exact ⟨rfl, hKW.trans hK2 HS.out, S2, hD2, fun t ht => (hS2 t ht).elim (HS.out t) fun h => .inr (Nat.le_trans hKW.size h)⟩
    · obtain rfl : j = m := by omega
      have hnil : g.drop j = [] := by rw [← Hm.out]; exact List.drop_length
      have A4 : Hid (k.writes g = (if kj.off then 6 else 0, kj.flush)) := by
        show _ = _
        rw [Hw.out, hnil]; rfl
      have Hun2 : Hid (kj.un.length ≤ 1073741824) := by have := Hu.out; have := Hun.out; show _ ≤ _; omega
      clear hnil hLr
      obtain ⟨fe, hfe⟩ : ∃ fe, fe = (if kj.off then (6 : Int) else 0) := ⟨_, rfl⟩
      have Hfe := Lib.hid hfe
      rw [← hfe] at A4
      clear hfe
      go_wp2_with (go_at_call 96; refine (flush_any sx_enc _ S' b kj HDj.out Hun2.out).mono ?_; rintro e w2 ⟨he, hT⟩; rw [← Hfe.out] at he; subst he; have T2 := Lib.hid hT; clear hT)
      go_ret
      rw [A4.out]
      exact ⟨rfl, Turned.trans HK.out HS.out T2.out⟩

theorem headS_bytes (seq n : Nat) : (headS seq n).b = headB seq n := rfl

set_option maxHeartbeats 800000 in
/-- The patches are written, and then the head, with a Count of 0. -/
theorem finish_any (hJ : JB w bj b start n seq) (hD : IsDisk sx w S b k) (hb : ¬ S bj) (hL : Pats w T A (ints g)) (hT : ∀ t, T t → ¬ S t) (m c : Nat) (hm : g.length = m) (hin : ∀ p ∈ g, p.1 < k.safe.length) (hst : start < k.safe.length) (hun : k.un.length + m ≤ 900000) (q : Nat) (hq : q < 18446744073709551616) :
    Calls Tryz.prog 112 #[.pointer (some ⟨bj, 0, none⟩), .int .u64 (q : Int), .slice A m c] w fun e w' => e = .returned (.int .i64 (k.finish start q g).1) ∧ Turned sx S w w' b (k.finish start q g).2 := by
  have hlen := Dk.writes_len g k
  have hun2 : (k.writes g).2.un.length ≤ 900000 := by have := Dk.writes_un g k; omega
  have Hw := Lib.hid (fun c => jwrite_any (c := c) hJ hD hb hL hT m hm hin (by omega))
  have Hq := Lib.hid hq
  have Hlt := Lib.hid hJ.lt
  have HJ := Lib.hid hJ
  have Hb := Lib.hid hb
  have Hst : Hid (start < (k.writes g).2.safe.length) := by show _ < _; rw [hlen]; exact hst
  have Hun2 := Lib.hid hun2
  unfold Dk.finish
  generalize hr : k.writes g = r at *
  obtain ⟨e0, k1⟩ := r
  simp only at Hst Hun2 Hw ⊢
  clear hJ hD hb hL hT hm hin hun hq hr hlen hun2 hst
  by_cases he : e0 = 0
  · subst he
    rw [if_pos rfl]
    go_enter Tryz.func112, Tryz.ntmps112
    go_wp2_with (go_at_call 109; refine (Hw.out c).mono ?_; rintro e w1 ⟨rfl, hT1⟩; have T1 := Lib.hid hT1; clear hT1)
    have hJ1 : JB w1 bj b start n seq := (T1.out.1.block bj Hlt.out Hb.out).trans HJ.out
    refine (head_any w1 bj b start n seq q 0 hJ1 Hq.out (by omega)).mono ?_
    rintro e w2 ⟨gh, rfl, hP, hB2⟩
    have HP := Lib.hid hP
    have HB2 := Lib.hid hB2
    have HJ1 := Lib.hid hJ1
    clear hP hB2 hJ1
    obtain ⟨hK1, S1, hD1, hS1⟩ := T1.out
    have hlt1 := Nat.lt_of_lt_of_le Hlt.out hK1.size
    have hb1 : ¬ S1 bj := fun hs => by
      rcases hS1 bj hs with h | h
      · exact Hb.out h
      · have := Hlt.out; omega
    have HK1 := Lib.hid hK1
    have HD1 := Lib.hid (hD1.below HB2.out)
    have HS1 := Lib.hid hS1
    have Hb1 := Lib.hid hb1
    have HJ2 := Lib.hid ((HB2.out.block bj hlt1).trans HJ1.out)
    have Hnew : Hid (∀ t, w1.heap.size ≤ t → ¬ S1 t) := fun t ht hs => by have := hD1.lt hs; omega
    have HK2 := Lib.hid (HK1.out.trans (Kept.of_below (S := S) HB2.out) fun i hi => .inl hi)
    clear hK1 hD1 hS1 hb1 hlt1
    go_wp2_with fail
    refine (jwrite_any (g := [(start, headS q 0)]) (T := fun i => w1.heap.size ≤ i) HJ2.out HD1.out Hb1.out HP.out Hnew.out 1 1 rfl (fun p hp => by simp only [List.mem_singleton] at hp; subst hp; exact Hst.out) (by have := Hun2.out; omega)).mono ?_
    rintro e w3 ⟨rfl, hT3⟩
    have T3 := Lib.hid hT3
    clear hT3
    go_wp2_with fail
    go_ret
    exact ⟨rfl, Turned.trans HK2.out HS1.out T3.out⟩
  · rw [if_neg he]
    have he2 : (e0 != 0) = true := by simp [he]
    go_enter Tryz.func112, Tryz.ntmps112
    go_wp2_with (go_at_call 109; refine (Hw.out c).mono ?_; rintro e w1 ⟨rfl, hT1⟩; have T1 := Lib.hid hT1; clear hT1)
    go_ret
    exact ⟨rfl, T1.out⟩
end
end Go.Proofs.YtcjkbmmjpkghlaaGreat

/-
  Which patches can't be written.
-/
namespace Go.Proofs.YtcjkbmmjpkghlaaGreat
open Go.RowKit
attribute [local go_sem ↓] Go.wp_at_zero Go.wp_at_succ

section
variable {w : World} {S T : Nat → Prop} {bj b start n seq : Nat} {k : Dk Sx} {A : Option Addr}

set_option maxHeartbeats 800000 in
/-- Is a patch wrong? -/
theorem wrong_any (hJ : JB w bj b start n seq) (hD : IsDisk sx w S b k) (hs : start ≤ 4096) (hn : n ≤ 4096) (gB : Nat) (hB : w.cell? ⟨gB, 0, none⟩ = some (.pointer (some ⟨bj, 0, none⟩))) (s : Int) (ba : Addr) (cp : Nat) (t : Int) :
    Calls Tryz.prog 166 #[.agg #[.int .i64 s, .slice (some ba) 64 cp, .int .u16 t], .pointer (some ⟨gB, 0, none⟩)] w fun e w' => e = .returned (.bool (!takesB k.safe.length start n s)) ∧ Below w.heap.size w w' := by
  have Ht : Hid (∀ W, Below w.heap.size w W → Calls Tryz.prog 167 #[.pointer (some ⟨bj, 0, none⟩), .int .i64 s] W fun e w' => e = .returned (.bool (takesB k.safe.length start n s)) ∧ Below W.heap.size W w') := fun W hW =>
    (takes_any W S bj b start n seq k (hJ.below hW hJ.lt) (hD.below hW) hs hn s)
  have hlt := World.block_lt_of_cell? w _ hB
  have hb0 : Below w.heap.size w (w.alloc (.cells #[.int .i64 s, .slice (some ba) 64 cp, .int .u16 t] 110)) := (Below.refl _ _).alloc (Nat.le_refl _) _
  have Hb0 := Lib.hid hb0
  clear hJ hD hb0
  cases htk : takesB k.safe.length start n s
  · rw [htk] at Ht
    clear htk
    go_enter Tryz.func166, Tryz.ntmps166
    go_wp2_with (go_at_call 167; refine (Ht.out _ Hb0.out).mono ?_; rintro e w1 ⟨rfl, hb⟩)
    go_ret
    exact ⟨rfl, Hb0.out.trans (hb.mono Hb0.out.size)⟩
  · rw [htk] at Ht
    clear htk
    have d1 := (Bk.new w 110 [.int .i64 s, .slice (some ba) 64 cp, .int .u16 t])
    have hsz : (w.alloc (.cells #[.int .i64 s, .slice (some ba) 64 cp, .int .u16 t] 110)).heap.size = w.heap.size + 1 := by simp
    go_enter Tryz.func166, Tryz.ntmps166
    go_wp2_with (go_at_call 167; refine (Ht.out _ Hb0.out).mono ?_; rintro e w1 ⟨rfl, hb⟩; have d2 := (hb.cell (p := ⟨w.heap.size, 1, none⟩) (by rw [hsz]; exact Nat.lt_succ_self _)).trans (d1.cell 1))
    go_ret
    exact ⟨rfl, Hb0.out.trans (hb.mono Hb0.out.size)⟩

/-- The first wrong one. -/
def anyWrong (m start n : Nat) (L : List (Int × Sx)) : Bool := L.any fun p => !takesB m start n p.1
set_option maxHeartbeats 800000 in
theorem index_any (hJ : JB w bj b start n seq) (hD : IsDisk sx w S b k) (hs : start ≤ 4096) (hn : n ≤ 4096) (gB : Nat) (hB : w.cell? ⟨gB, 0, none⟩ = some (.pointer (some ⟨bj, 0, none⟩))) (L : List (Int × Sx)) (hL : Pats w T A L) (m c : Nat) (hm : L.length = m) (hmm : m ≤ 1000000) :
    Calls Tryz.prog 201 #[.slice A m c, .func (.func 166) #[] #[.pointer (some ⟨gB, 0, none⟩)]] w fun e w' => ∃ i : Int, e = .returned (.int .i64 i) ∧ decide (0 ≤ i) = anyWrong k.safe.length start n L ∧ Below w.heap.size w w' := by
  have hlt := World.block_lt_of_cell? w _ hB
  have Hw : Hid (∀ W, Below w.heap.size w W → ∀ (s : Int) (ba : Addr) (cp : Nat) (t : Int), Calls Tryz.prog 166 #[.agg #[.int .i64 s, .slice (some ba) 64 cp, .int .u16 t], .pointer (some ⟨gB, 0, none⟩)] W fun e w' => e = .returned (.bool (!takesB k.safe.length start n s)) ∧ Below W.heap.size W w') := fun W hW s ba cp t =>
    wrong_any (hJ.below hW hJ.lt) (hD.below hW) hs hn gB ((hW.cell (p := ⟨gB, 0, none⟩) hlt).trans hB) s ba cp t
  have HL := Lib.hid hL
  have Hm := Lib.hid hm
  clear hJ hD hB hL hm hs hn hlt
  go_enter Tryz.func201, Tryz.ntmps201
  go_wp2
  go_loopw [5, 8] (fun _ i wr => ∃ j : Nat, j ≤ m ∧ i = .int .i64 (j : Int) ∧ Below w.heap.size w wr ∧ Hid (∀ q p, L[q]? = some p → q < j → takesB k.safe.length start n p.1 = true)) (fun _ i _ => m - (intOf i).toNat)
  case atStart => exact ⟨0, Nat.zero_le _, rfl, Below.refl _ _, fun q _ _ hq => absurd hq (Nat.not_lt_zero _)⟩
  case round =>
    obtain ⟨j, hj, rfl, hb, Hf⟩ := hrel
    have Hb := Lib.hid hb
    clear hb
    by_cases hlt : j < m
    · obtain ⟨p, hp⟩ : ∃ p, L[j]? = some p := ⟨_, List.getElem?_eq_getElem (by rw [Hm.out]; exact hlt)⟩
      obtain ⟨b1, o, ba, oa, cp, rfl, _, _, _, _, _, c0, c1, c2, _⟩ := (HL.out.below Hb.out) j _ hp
      obtain ⟨s, x⟩ := p
      simp only at c0 c2
      have hq := Hw.out wr Hb.out s ⟨ba, oa, none⟩ cp x.t
      obtain ⟨t, ht⟩ : ∃ t : Int, t = x.t := ⟨_, rfl⟩
      rw [← ht] at c2 hq
      have Hp := Lib.hid hp
      clear hp ht
      cases htk : takesB k.safe.length start n s
      · rw [htk] at hq
        have Htk := Lib.hid htk
        clear htk
        go_wp2_with (go_at_call 166; refine hq.mono ?_; rintro e w' ⟨rfl, hb⟩)
        go_ret
        refine ⟨(j : Int), rfl, ?_, Hb.out.trans (hb.mono Hb.out.size)⟩
        have : anyWrong k.safe.length start n L = true := by
          rw [anyWrong, List.any_eq_true]
          exact ⟨_, List.mem_of_getElem? Hp.out, by simp only [Htk.out]; rfl⟩
        rw [this, decide_eq_true_eq]; omega
      · rw [htk] at hq
        have Htk := Lib.hid htk
        clear htk
        go_wp2_with (go_at_call 166; refine hq.mono ?_; rintro e w' ⟨rfl, hb⟩)
        go_roundw
        case rel => exact ⟨j + 1, by omega, by go_num, Hb.out.trans (hb.mono Hb.out.size), fun q p hq hlt => by
          rcases Nat.lt_or_ge q j with h | h
          · exact Hf.out q p hq h
          · obtain rfl : q = j := by omega
            rw [Hp.out] at hq
            cases hq
            exact Htk.out⟩
        case measure => simp [intOf]; omega
    · obtain rfl : j = m := by omega
      have : anyWrong k.safe.length start n L = false := by
        rw [anyWrong, List.any_eq_false]
        intro p hp
        obtain ⟨q, hq⟩ := List.mem_iff_getElem?.1 hp
        rw [Hf.out q p hq (by rw [← Hm.out]; exact (List.getElem?_eq_some_iff.1 hq).1)]
        simp
      have Hz := Lib.hid this
      clear this
      go_wp2
      go_ret
      exact ⟨-1, rfl, by rw [Hz.out]; rfl, Hb.out⟩

theorem contains_any (hJ : JB w bj b start n seq) (hD : IsDisk sx w S b k) (hs : start ≤ 4096) (hn : n ≤ 4096) (gB : Nat) (hB : w.cell? ⟨gB, 0, none⟩ = some (.pointer (some ⟨bj, 0, none⟩))) (L : List (Int × Sx)) (hL : Pats w T A L) (m c : Nat) (hm : L.length = m) (hmm : m ≤ 1000000) :
    Calls Tryz.prog 168 #[.slice A m c, .func (.func 166) #[] #[.pointer (some ⟨gB, 0, none⟩)]] w fun e w' => e = .returned (.bool (anyWrong k.safe.length start n L)) ∧ Below w.heap.size w w' := by
  have Hi := Lib.hid (index_any (c := c) hJ hD hs hn gB hB L hL m hm hmm)
  clear hJ hD hB hL hm
  go_enter Tryz.func168, Tryz.ntmps168
  go_wp2_with (go_at_call 201; refine Hi.out.mono ?_; rintro e w' ⟨i, rfl, hi, hb⟩)
  go_ret
  exact ⟨by rw [← hi]; rfl, hb⟩

/-- The error of patches that can't be written. -/
def refuseE (m start n : Nat) (L : List (Int × Sx)) : Int := if room n < L.length then 4 else if anyWrong m start n L then 1 else 0

set_option maxHeartbeats 800000 in
theorem refuse_any (hJ : JB w bj b start n seq) (hD : IsDisk sx w S b k) (hs : start ≤ 4096) (hn3 : 3 ≤ n) (hn : n ≤ 4096) (hq : seq < 18446744073709551615) (L : List (Int × Sx)) (hL : Pats w T A L) (m c : Nat) (hm : L.length = m) (hmm : m ≤ 1000000) :
    Calls Tryz.prog 108 #[.pointer (some ⟨bj, 0, none⟩), .slice A m c] w fun e w' => e = .returned (.int .i64 (refuseE k.safe.length start n L)) ∧ Below w.heap.size w w' := by
  have hlt := hJ.lt
  have hb0 : Below w.heap.size w (w.alloc (.cells #[.pointer (some ⟨bj, 0, none⟩)] 99)) := (Below.refl _ _).alloc (Nat.le_refl _) _
  have hB0 : (w.alloc (.cells #[.pointer (some ⟨bj, 0, none⟩)] 99)).cell? ⟨w.heap.size, 0, none⟩ = some (.pointer (some ⟨bj, 0, none⟩)) := (Bk.new w 99 [.pointer (some ⟨bj, 0, none⟩)]).cell 0
  have Hc := Lib.hid (contains_any (c := c) (hJ.below hb0 hlt) (hD.below hb0) hs hn w.heap.size hB0 L (hL.below hb0) m hm hmm)
  have Hr := Lib.hid (room_any (w.alloc (.cells #[.pointer (some ⟨bj, 0, none⟩)] 99)) bj b start n seq (hJ.below hb0 hlt) hn3 hn)
  have Hb0 := Lib.hid hb0
  have c3 := (hb0.cell (p := ⟨bj, 3, none⟩) hlt).trans (hJ.cell 3)
  have hsq : ((seq : Int) == 18446744073709551615) = false := by rw [beq_eq_false_iff_ne]; omega
  have hrm : room n ≤ 4096 := by unfold room; omega
  unfold refuseE
  rw [hm]
  obtain ⟨r, hr⟩ : ∃ r, r = room n := ⟨_, rfl⟩
  rw [← hr] at Hr hrm ⊢
  clear hJ hD hL hm hb0 hB0 hr
  by_cases hlong : r < m
  · rw [if_pos hlong]
    go_enter Tryz.func108, Tryz.ntmps108
    go_wp2_with (first | (go_at_call 52; refine Hr.out.mono ?_; rintro e w' ⟨rfl, rfl⟩))
    go_ret
    exact ⟨rfl, Hb0.out⟩
  · rw [if_neg hlong]
    cases hw : anyWrong k.safe.length start n L
    · rw [hw] at Hc
      clear hw
      go_enter Tryz.func108, Tryz.ntmps108
      go_wp2_with (first | (go_at_call 52; refine Hr.out.mono ?_; rintro e w' ⟨rfl, rfl⟩) | (go_at_call 168; refine Hc.out.mono ?_; rintro e w' ⟨rfl, hb⟩))
      go_ret
      exact ⟨rfl, Hb0.out.trans (hb.mono Hb0.out.size)⟩
    · rw [hw] at Hc
      clear hw
      go_enter Tryz.func108, Tryz.ntmps108
      go_wp2_with (first | (go_at_call 52; refine Hr.out.mono ?_; rintro e w' ⟨rfl, rfl⟩) | (go_at_call 168; refine Hc.out.mono ?_; rintro e w' ⟨rfl, hb⟩))
      go_ret
      exact ⟨rfl, Hb0.out.trans (hb.mono Hb0.out.size)⟩
end
end Go.Proofs.YtcjkbmmjpkghlaaGreat
