/-
  Sealed bytes of which one is another one, or two neighbours are changed about: whether they are opened; no program.
-/
import Derived.Test.YtmbljobemfinjaaS3
namespace Go.Proofs.Ytmbljobemfinjaa
open Go.RowKit

theorem digs_sum {x y : List UInt8} (h : digs (sumOf x) 4 = digs (sumOf y) 4) : sumOf x = sumOf y := by
  have := congrArg le h
  rwa [le_digs_of_lt _ _ (by have := sumOf_lt x; omega), le_digs_of_lt _ _ (by have := sumOf_lt y; omega)] at this
theorem set_parts (x : List UInt8) (k : Nat) (c : UInt8) (hk : k < x.length) : x.set k c = x.take k ++ c :: x.drop (k + 1) := by
  rw [List.set_eq_take_append_cons_drop, if_pos hk]
theorem own_parts (x : List UInt8) (k : Nat) (hk : k < x.length) : x = x.take k ++ x[k] :: x.drop (k + 1) := by
  rw [← List.drop_eq_getElem_cons hk, List.take_append_drop]
/-- What has a body and another's seal opens where the sums are alike. -/
theorem opens_body (x y : List UInt8) : opensB (y ++ digs (sumOf x) 4) = decide (sumOf x = sumOf y) := by
  rw [Bool.eq_iff_iff, opens_iff, decide_eq_true_eq]
  have hl : (y ++ digs (sumOf x) 4).length - 4 = y.length := by rw [List.length_append, length_digs]; omega
  rw [hl, List.take_left, sealed]
  constructor
  · intro h
    exact digs_sum (List.append_cancel_left h)
  · intro h; rw [h]
theorem opens_set (x : List UInt8) (k : Nat) (c a : UInt8) (ha : (sealed x)[k]? = some a) : opensB ((sealed x).set k c) = (a == c) := by
  obtain ⟨hk, rfl⟩ := List.getElem?_eq_some_iff.1 ha
  rw [length_sealed] at hk
  by_cases hx : k < x.length
  · have e1 : (sealed x)[k]'(by rw [length_sealed]; omega) = x[k] := by simp only [sealed]; exact List.getElem_append_left hx
    rw [e1, sealed, List.set_append_left _ _ hx, opens_body, Bool.eq_iff_iff, decide_eq_true_eq, beq_iff_eq]
    conv => lhs; lhs; rw [own_parts x k hx]
    rw [set_parts x k c hx]
    exact sum_byte 1 _ _ _ _
  · rw [Bool.eq_iff_iff, opens_iff, beq_iff_eq]
    have hl : ((sealed x).set k c).length - 4 = x.length := by rw [List.length_set, length_sealed]; omega
    have ht : ((sealed x).set k c).take x.length = x := by
      rw [List.take_set_of_le (by omega), sealed, List.take_left]
    rw [hl, ht]
    constructor
    · intro h
      have h2 : ((sealed x).set k c)[k]? = (sealed x)[k]? := by rw [h]
      rw [List.getElem?_set_self (by rw [length_sealed]; omega), ha] at h2
      injection h2 with h2
      exact h2.symm
    · intro h
      rw [← h]
      exact List.set_getElem_self _
theorem opens_swap (x : List UInt8) (k : Nat) (a b : UInt8) (hk : k + 1 < x.length) (ha : (sealed x)[k]? = some a) (hb : (sealed x)[k + 1]? = some b) :
    opensB (((sealed x).set k b).set (k + 1) a) = (b == a) := by
  have ea : x[k]? = some a := by rw [← ha, sealed, List.getElem?_append_left (by omega)]
  have eb : x[k + 1]? = some b := by rw [← hb, sealed, List.getElem?_append_left (by omega)]
  obtain ⟨h1, rfl⟩ := List.getElem?_eq_some_iff.1 ea
  obtain ⟨h2, rfl⟩ := List.getElem?_eq_some_iff.1 eb
  rw [sealed, List.set_append_left _ _ h1, List.set_append_left _ _ (by rw [List.length_set]; exact h2), opens_body, Bool.eq_iff_iff, decide_eq_true_eq, beq_iff_eq]
  have e1 : x = x.take k ++ x[k] :: x[k + 1] :: x.drop (k + 2) := by
    rw [← List.drop_eq_getElem_cons h2, ← List.drop_eq_getElem_cons h1, List.take_append_drop]
  have e2 : (x.set k x[k + 1]).set (k + 1) x[k] = x.take k ++ x[k + 1] :: x[k] :: x.drop (k + 2) := by
    have hl : (x.take k).length = k := by rw [List.length_take]; omega
    generalize x[k] = p at *
    generalize x[k + 1] = q at *
    generalize x.take k = l at *
    generalize x.drop (k + 2) = r at *
    subst e1
    rw [List.set_append_right _ _ (by omega), hl, Nat.sub_self, List.set_cons_zero, List.set_append_right _ _ (by omega), hl, Nat.add_sub_cancel_left, List.set_cons_succ, List.set_cons_zero]
  rw [e2]
  conv => lhs; lhs; rw [e1]
  exact (sum_swap 1 _ _ _ _).trans eq_comm
end Go.Proofs.Ytmbljobemfinjaa
