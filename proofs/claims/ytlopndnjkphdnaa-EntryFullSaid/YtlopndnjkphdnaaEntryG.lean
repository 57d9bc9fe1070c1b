/-
  A full directory on paper: 240 names, one removed, and another one in its place.
-/
import Derived.Test.YtlopndnjkphdnaaEntryF
namespace Go.Proofs.Ytlopndnjkphdnaa.Entry
open Go.RowKit

def nmF (i : Nat) : List UInt8 := [110, 97, 109, 101, UInt8.ofNat (97 + i / 16), UInt8.ofNat (97 + i % 16)]
def more : List UInt8 := [109, 111, 114, 101]
theorem nmF_all : (List.range 240).all (fun i => nameB (nmF i)) = true := by decide +kernel
theorem nmF_ok {i : Nat} (h : i < 240) : nameB (nmF i) = true := List.all_eq_true.1 nmF_all i (List.mem_range.2 h)
theorem nmF_inj {i j : Nat} (hi : i < 240) (hj : j < 240) (h : nmF i = nmF j) : i = j := by
  simp only [nmF, List.cons.injEq, and_true, true_and] at h
  have h1 := congrArg UInt8.toNat h.1
  have h2 := congrArg UInt8.toNat h.2
  simp at h1 h2
  omega
def entF (i : Nat) : Ent := ⟨nmF i, i % 64⟩
theorem okF {i : Nat} (h : i < 240) : Ok (entF i) := ⟨nmF_ok h, Nat.mod_lt _ (by omega)⟩
def dirF (i : Nat) : List Slot := (List.range i).map fun k => some (entF k)
theorem length_dirF (i : Nat) : (dirF i).length = i := by simp [dirF]
theorem dirF_succ (i : Nat) : dirF (i + 1) = dirF i ++ [some (entF i)] := by simp [dirF, List.range_succ]
theorem free_dirF (i : Nat) : none ∉ dirF i := by simp [dirF]
theorem mem_dirF {i : Nat} {x : Ent} (h : some x ∈ dirF i) : ∃ k, k < i ∧ x = entF k := by
  simp only [dirF, List.mem_map, List.mem_range, Option.some.injEq] at h
  obtain ⟨k, hk, rfl⟩ := h
  exact ⟨k, hk, rfl⟩
theorem new_dirF {i : Nat} (h : i < 240) : nmF i ∉ names (dirF i) := fun hm => by
  obtain ⟨x, hx, hn⟩ := mem_names.1 hm
  obtain ⟨k, hk, rfl⟩ := mem_dirF hx
  have := nmF_inj (by omega) h hn
  omega
theorem put_dirF (i : Nat) : put (dirF i) (entF i) = dirF (i + 1) := by rw [put_full (free_dirF i), dirF_succ]
theorem dir_dirF {i : Nat} (h : i ≤ 240) : Dir (dirF i) := by
  induction i with
  | zero => exact dir_nil
  | succ i ih =>
    rw [← put_dirF]
    exact dir_put (ih (by omega)) (okF (by omega)) (new_dirF (by omega)) (.inr (by rw [length_dirF]; omega))
theorem add_dirF {i : Nat} (h : i < 240) : addE hsh (dirB hsh (dirF i)) (nmF i) (((i % 64 : Nat) : Int)) = (dirB hsh (dirF (i + 1)), 0) := by
  have := add_dir (dir_dirF (by omega : i ≤ 240)) (okF h) (new_dirF h) (by rw [Bool.or_eq_true, length_dirF]; exact .inr (decide_eq_true h))
  rw [this]
  exact congrArg (fun l => (dirB hsh l, 0)) (put_dirF i)
theorem len_dirF {i : Nat} (h : i ≤ 240) : (dirB hsh (dirF i)).length = i * 16 := by rw [length_dirB (dir_dirF h).ok, length_dirF]
theorem more_dirF (i : Nat) : more ∉ names (dirF i) := fun hm => by
  obtain ⟨x, hx, hn⟩ := mem_names.1 hm
  obtain ⟨k, hk, rfl⟩ := mem_dirF hx
  have := congrArg List.length hn
  simp [entF, nmF, more] at this
theorem full_dirF : addE hsh (dirB hsh (dirF 240)) more 0 = ([], 5) := by
  have hd := dir_dirF (Nat.le_refl 240)
  have hl := length_dirF 240
  refine addE_full (dirP_dir hd) (by decide) (by decide) (fun h => more_dirF 240 (isN_mem.1 h)) ?_
  have h1 := free_le (dirF 240)
  have h2 : ¬ freeIdx (dirF 240) < (dirF 240).length := fun h => free_dirF 240 (free_mem.1 h)
  omega
theorem put_at {l : List Slot} {k : Nat} (x : Ent) (h : none ∉ l) (hk : k < l.length) : put (l.set k none) x = l.set k (some x) := by
  induction l generalizing k with
  | nil => simp at hk
  | cons s l ih =>
    cases k with
    | zero => rfl
    | succ k =>
      cases s with
      | none => simp at h
      | some y =>
        show some y :: put (l.set k none) x = some y :: l.set k (some x)
        rw [ih (by simpa using h) (by simpa using hk)]
theorem del_dirF {k : Nat} (hk : k < 239) : del (dirF 240) (nmF k) = (dirF 240).set k none := by
  have e : clr (dirF 240) (nmF k) = (dirF 240).set k none := by
    apply List.ext_getElem?
    intro j
    by_cases hj : j < 240
    · have h1 : (dirF 240)[j]? = some (some (entF j)) := by simp [dirF, hj]
      unfold clr
      rw [List.getElem?_map, h1]
      by_cases hjk : j = k
      · subst hjk
        rw [List.getElem?_set_self (by rw [length_dirF]; omega)]
        show some (if nmF j = nmF j then none else some (entF j)) = _
        rw [if_pos rfl]
      · rw [List.getElem?_set_ne (fun h => hjk h.symm), h1]
        show some (if nmF j = nmF k then none else some (entF j)) = _
        rw [if_neg (fun h => hjk (nmF_inj hj (by omega) h))]
    · rw [List.getElem?_eq_none (by rw [length_clr, length_dirF]; omega), List.getElem?_eq_none (by rw [List.length_set, length_dirF]; omega)]
  unfold del
  rw [e, dirF_succ 239, List.set_append_left _ _ (by rw [length_dirF]; omega), cutEnd_append_some]
theorem rem_dirF {k : Nat} (hk : k < 239) : remE hsh (dirB hsh (dirF 240)) (nmF k) = (dirB hsh ((dirF 240).set k none), 0) := by
  rw [rem_dir (n := nmF k) (dir_dirF (Nat.le_refl 240)) (mem_names.2 ⟨entF k, by simp [dirF]; exact ⟨k, by omega, rfl⟩, rfl⟩), del_dirF hk]
theorem dir_less {k : Nat} (hk : k < 239) : Dir ((dirF 240).set k none) := by
  rw [← del_dirF hk]
  exact dir_del (dir_dirF (Nat.le_refl 240)) _
theorem okM : Ok ⟨more, 7⟩ := ⟨by decide, by decide⟩
theorem back_dirF {k : Nat} (hk : k < 239) : addE hsh (dirB hsh ((dirF 240).set k none)) more 7 = (dirB hsh ((dirF 240).set k (some ⟨more, 7⟩)), 0) := by
  have hnm : more ∉ names ((dirF 240).set k none) := fun hm => by
    obtain ⟨x, hx, hn⟩ := mem_names.1 hm
    rw [← del_dirF hk] at hx
    exact more_dirF 240 (mem_names.2 ⟨x, (mem_del.1 hx).1, hn⟩)
  have hmem : none ∈ (dirF 240).set k none := List.mem_iff_getElem?.2 ⟨k, List.getElem?_set_self (by rw [length_dirF]; omega)⟩
  have h := add_dir (n := more) (i := 7) (dir_less hk) okM hnm (by
    rw [Bool.or_eq_true]
    exact .inl (List.any_eq_true.2 ⟨none, hmem, rfl⟩))
  rw [put_at ⟨more, 7⟩ (free_dirF 240) (by rw [length_dirF]; omega)] at h
  exact h
theorem splice_front {α : Type} (l : List α) (o : Nat) (d : List α) (h : o ≤ l.length) : (splice l o d).take o = l.take o := by
  unfold splice
  rw [List.take_append_of_le_length (by rw [List.length_take]; omega), List.take_take, Nat.min_self]
theorem splice_rest {α : Type} (l : List α) (o : Nat) (d : List α) (h : o ≤ l.length) : (splice l o d).drop (o + d.length) = l.drop (o + d.length) := by
  unfold splice
  have e : (l.take o ++ d).length = o + d.length := by rw [List.length_append, List.length_take]; omega
  rw [← List.append_assoc, ← e, List.drop_left]
theorem back_bytes {k : Nat} (hk : k < 239) (t : Slot) (ht : SOk t) : (dirB hsh ((dirF 240).set k t)).length = 3840 ∧ (dirB hsh ((dirF 240).set k t)).take (k * 16) = (dirB hsh (dirF 240)).take (k * 16) ∧ (dirB hsh ((dirF 240).set k t)).drop (k * 16 + 16) = (dirB hsh (dirF 240)).drop (k * 16 + 16) := by
  have hd := dir_dirF (Nat.le_refl 240)
  have hl := len_dirF (Nat.le_refl 240)
  have hs := length_slotB (H := hsh) ht
  have e := dirB_set hd.ok ht (j := k) (by rw [length_dirF]; omega)
  rw [e]
  refine ⟨?_, splice_front _ _ _ (by rw [hl]; omega), ?_⟩
  · unfold splice
    rw [List.length_append, List.length_append, List.length_take, List.length_drop, hl, hs]
    omega
  · have := splice_rest (dirB hsh (dirF 240)) (k * 16) (slotB hsh t) (by rw [hl]; omega)
    rw [hs] at this
    exact this
end Go.Proofs.Ytlopndnjkphdnaa.Entry
