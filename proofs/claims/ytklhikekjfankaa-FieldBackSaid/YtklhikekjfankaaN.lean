/-
  Plain facts on what is laid over a list: read back, and two that lie apart. No program occurs here.
-/
import Derived.Test.YtklhikekjfankaaM
namespace Go.Proofs.Ytklhikekjfankaa

theorem getElem?_put {α : Type} (l : List α) (o : Nat) (d : List α) (h : o + d.length ≤ l.length) (i : Nat) :
    (put l o d)[i]? = if i < o then l[i]? else if i < o + d.length then d[i - o]? else l[i]? := by
  unfold put
  have h1 : (l.take o).length = o := by simp; omega
  by_cases hi : i < o
  · rw [if_pos hi, List.append_assoc, List.getElem?_append_left (by omega), List.getElem?_take_of_lt hi]
  · rw [if_neg hi]
    by_cases hj : i < o + d.length
    · rw [if_pos hj, List.getElem?_append_left (by simp; omega), List.getElem?_append_right (by omega), h1]
    · rw [if_neg hj, List.getElem?_append_right (by simp; omega), List.getElem?_drop]
      congr 1
      simp; omega

theorem take_put {α : Type} (l : List α) (o : Nat) (d : List α) (h : o + d.length ≤ l.length) : (put l o d).take o = l.take o := by
  apply List.ext_getElem?
  intro i
  rw [List.getElem?_take, List.getElem?_take, getElem?_put l o d h]
  split <;> rfl
theorem drop_put {α : Type} (l : List α) (o : Nat) (d : List α) (k : Nat) (hk : k = d.length) (h : o + k ≤ l.length) : (put l o d).drop (o + k) = l.drop (o + k) := by
  subst hk
  apply List.ext_getElem?
  intro i
  rw [List.getElem?_drop, List.getElem?_drop, getElem?_put l o d h, if_neg (by omega), if_neg (by omega)]
theorem got_put {α : Type} (l : List α) (o : Nat) (d : List α) (k : Nat) (hk : k = d.length) (h : o + k ≤ l.length) : ((put l o d).drop o).take k = d := by
  subst hk
  apply List.ext_getElem?
  intro i
  rw [List.getElem?_take, List.getElem?_drop, getElem?_put l o d h]
  by_cases hi : i < d.length
  · rw [if_pos hi, if_neg (by omega), if_pos (by omega)]
    congr 1; omega
  · rw [if_neg hi, List.getElem?_eq_none (by omega)]
theorem got_other {α : Type} (l : List α) (o : Nat) (d : List α) (p k : Nat) (h : o + d.length ≤ l.length) (hp : p + k ≤ o) : ((put l o d).drop p).take k = (l.drop p).take k := by
  apply List.ext_getElem?
  intro i
  rw [List.getElem?_take, List.getElem?_take, List.getElem?_drop, List.getElem?_drop, getElem?_put l o d h]
  by_cases hi : i < k
  · rw [if_pos hi, if_pos hi, if_pos (by omega)]
  · rw [if_neg hi, if_neg hi]
theorem put_comm {α : Type} (l : List α) (o p : Nat) (d e : List α) (h : o + d.length ≤ p) (hp : p + e.length ≤ l.length) : put (put l o d) p e = put (put l p e) o d := by
  apply List.ext_getElem?
  intro i
  rw [getElem?_put _ p e (by rw [length_put _ _ _ (by omega)]; omega), getElem?_put l o d (by omega), getElem?_put _ o d (by rw [length_put _ _ _ hp]; omega), getElem?_put l p e hp]
  by_cases h1 : i < o
  · rw [if_pos (show i < p by omega), if_pos h1, if_pos h1, if_pos (show i < p by omega)]
  · by_cases h2 : i < o + d.length
    · rw [if_pos (show i < p by omega), if_neg h1, if_pos h2, if_neg h1, if_pos h2]
    · rw [if_neg h1, if_neg h2, if_neg h1, if_neg h2]

theorem le_got (l : List UInt8) (o n k : Nat) (h : o + k ≤ l.length) (hn : n < 256 ^ k) : le (((put l o (digs n k)).drop o).take k) = n := by
  rw [got_put l o (digs n k) k (length_digs n k).symm h, le_digs_of_lt n k hn]
end Go.Proofs.Ytklhikekjfankaa
