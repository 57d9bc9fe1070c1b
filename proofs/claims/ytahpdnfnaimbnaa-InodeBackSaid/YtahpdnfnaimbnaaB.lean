/-
  Blocks made, bytes compared, and what Take and Lay hand back.
-/
import Derived.Test.YtahpdnfnaimbnaaX8
namespace Go.Proofs.Ytahpdnfnaimbnaa.Inode
open Go.RowKit

theorem ptrs15 (b : List UInt8) (h : b.length = 32) : ptrs (b.drop 2) = [((numL b 2 : Nat) : Int), ((numL b 4 : Nat) : Int), ((numL b 6 : Nat) : Int), ((numL b 8 : Nat) : Int), ((numL b 10 : Nat) : Int), ((numL b 12 : Nat) : Int), ((numL b 14 : Nat) : Int), ((numL b 16 : Nat) : Int), ((numL b 18 : Nat) : Int), ((numL b 20 : Nat) : Int), ((numL b 22 : Nat) : Int), ((numL b 24 : Nat) : Int), ((numL b 26 : Nat) : Int), ((numL b 28 : Nat) : Int), ((numL b 30 : Nat) : Int)] := by
  unfold ptrs
  rw [takel15 b h]
  rfl
theorem byte_at (b : List UInt8) (i : Nat) (h : i < b.length) : (bytesV b)[i]? = some (.int .u8 ((b.getD i 0).toNat : Int)) := by
  simp [bytesV, byteV, List.getD_eq_getElem?_getD, List.getElem?_eq_getElem h]
theorem lt_of {w : World} {g o : Nat} {v : Value} (h : w.cell? ⟨g, o, none⟩ = some v) : g < w.heap.size := World.block_lt_of_cell? w _ h
/-- Two blocks made. -/
theorem two_new (w : World) (xs ys : List Value) (a b : TypeId) : ∀ W, W = ((w.alloc (.cells xs.toArray a)).alloc (.cells ys.toArray b)).drew →
    Bk W w.heap.size a xs ∧ Bk W (w.heap.size + 1) b ys ∧ Below w.heap.size w W ∧ W.heap.size = w.heap.size + 2 := by
  rintro W rfl
  have h1 := Bk.new w a xs
  have b1 := alloc_below w (.cells xs.toArray a)
  have s1 : (w.alloc (.cells xs.toArray a)).heap.size = w.heap.size + 1 := by simp
  generalize w.alloc (.cells xs.toArray a) = w1 at *
  have h2 := Bk.new w1 b ys
  have b2 := alloc_below w1 (.cells ys.toArray b)
  have s2 : (w1.alloc (.cells ys.toArray b)).heap.size = w1.heap.size + 1 := by simp
  generalize w1.alloc (.cells ys.toArray b) = w2 at *
  rw [s1] at h2
  have h4 : Bk w2 w.heap.size a xs := h1.below b2 (by omega)
  exact ⟨h4, h2, (show Below w.heap.size w w2.drew from below_drew (b1.trans (b2.mono (by omega)))), by show w2.heap.size = _; omega⟩
theorem src10 {W : World} {B g : Nat} {n0 n1 n2 n3 n4 n5 n6 n7 n8 n9 n10 n11 n12 n13 n14 : Nat} (h : Rd W B (some ⟨g, 0, none⟩) (intsV [(n0 : Int), (n1 : Int), (n2 : Int), (n3 : Int), (n4 : Int), (n5 : Int), (n6 : Int), (n7 : Int), (n8 : Int), (n9 : Int), (n10 : Int), (n11 : Int), (n12 : Int), (n13 : Int), (n14 : Int)])) : ∀ j v, (intsV [(n2 : Int), (n3 : Int), (n4 : Int), (n5 : Int), (n6 : Int), (n7 : Int), (n8 : Int), (n9 : Int), (n10 : Int), (n11 : Int)])[j]? = some v → W.cell? (Addr.add ⟨g, 2, none⟩ j) = some v := by
  intro j v hv
  have e : intsV [(n2 : Int), (n3 : Int), (n4 : Int), (n5 : Int), (n6 : Int), (n7 : Int), (n8 : Int), (n9 : Int), (n10 : Int), (n11 : Int)] = ((intsV [(n0 : Int), (n1 : Int), (n2 : Int), (n3 : Int), (n4 : Int), (n5 : Int), (n6 : Int), (n7 : Int), (n8 : Int), (n9 : Int), (n10 : Int), (n11 : Int), (n12 : Int), (n13 : Int), (n14 : Int)]).drop 2).take 10 := rfl
  rw [e, List.getElem?_take] at hv
  split at hv
  · rw [List.getElem?_drop] at hv
    rw [Addr.add_lit]
    rcases h with h | ⟨b, o, hb, _, hc⟩
    · cases h
    · injection hb with hb
      injection hb with h1 h2 _
      subst h1 h2
      have := hc (2 + j) v hv
      rwa [Nat.zero_add] at this
  · simp at hv
theorem str_of {l : List UInt8} {A : Option Addr} {n c B : Nat} {w : World} (hn : l.length = n) (hr : Rd w B A (bytesV l)) : (convert 25 9 (.slice A n c)).run Try.prog w = .ok (.string ⟨l.toArray⟩) w :=
  run_str w 25 9 5 Try.underlying25 Try.underlying5 Try.underlying9 B A n c l hn hr
theorem equal_any (l m : List UInt8) (A : Option Addr) (n c : Nat) (A2 : Option Addr) (n2 c2 B B2 : Nat) (w : World) (hn : l.length = n) (hr : Rd w B A (bytesV l)) (hn2 : m.length = n2) (hr2 : Rd w B2 A2 (bytesV m)) :
    Calls Try.prog 37 #[.slice A n c, .slice A2 n2 c2] w fun e w' => e = .returned (.bool (l == m)) ∧ w = w' := by
  have h1 := str_of (c := c) hn hr
  have h2 := str_of (c := c2) hn2 hr2
  clear hn hr hn2 hr2
  go_enter Try.func37, Try.ntmps37
  go_wp2
  go_ret
  exact ⟨rfl, rfl⟩
theorem HandsB.got {w w' : World} {bs : List UInt8} {err n : Nat} {e : Ending} (h : HandsB w bs err e w') (hn : bs.length = n) : ∃ A c, e = .returned (.tuple #[.slice A n c, .int .i64 (err : Int)]) ∧ n ≤ c ∧ Rd w' w'.heap.size A (bytesV bs) ∧ Below w.heap.size w w' := by
  subst hn
  obtain ⟨v, he, hown, hb⟩ := h
  obtain ⟨_, A, c, rfl, hc, _, hr⟩ := own_rd hown
  exact ⟨A, c, he, hc, hr, hb⟩
/-- What Take hands back. -/
def HandsN (w : World) (n : Ino) (err : Nat) (e : Ending) (w' : World) : Prop := e = .returned (.tuple #[inoV n, .int .i64 (err : Int)]) ∧ Below w.heap.size w w'

end Go.Proofs.Ytahpdnfnaimbnaa.Inode
