/-
  The sectors of what is known, as the document answers.
-/
import Derived.Test.YtcjkbmmjpkghlaaGreatQMetaR
import Derived.Test.YtcjkbmmjpkghlaaGreatQMetaA
import Derived.Test.YtcjkbmmjpkghlaaGreatQF
import Derived.Test.YtcjkbmmjpkghlaaGreatQInternB
import Derived.Test.YtcjkbmmjpkghlaaGreatQInodeB
namespace Go.Proofs.YtcjkbmmjpkghlaaGreat.Meta
open Go.Proofs.YtcjkbmmjpkghlaaGreat
open Go.RowKit

theorem rd_byte1 (w : World) (y : UInt8) (e : TypeId) : Rd (w.alloc (.cells #[.int .u8 (y.toNat : Int)] e)) (w.heap.size + 1) (some ⟨w.heap.size, 0, none⟩) (bytesV [y]) := by
  have h := (Bk.new w e (bytesV [y])).rd 1 0
  simpa [bytesV, byteV] using h
theorem ownL_step {l : List Int} {a : Nat} {x : Int} (h : l[a]? = some x) : ownL (l.take (a + 1)) = ownL (l.take a) ++ [UInt8.ofNat x.toNat] := by
  rw [List.take_add_one, h]
  simp [ownL]
theorem own_byte {x : Int} (h : 0 ≤ x ∧ x ≤ 16) : x = ((UInt8.ofNat x.toNat).toNat : Int) := by
  simp
  omega
theorem take_two {l : List Inode.Ino} {q : Nat} {a b : Inode.Ino} (ha : l[q]? = some a) (hb : l[q + 1]? = some b) : l.take (q + 2) = l.take q ++ [a, b] := by
  rw [List.take_add_one, List.take_add_one, ha, hb]
  simp
theorem pairs_two {l : List Inode.Ino} {q : Nat} {a b : Inode.Ino} (hq : q % 2 = 0) (ha : l[q]? = some a) (hb : l[q + 1]? = some b) : pairs (l.take (q + 2)) = pairs (l.take q) ++ [Inode.bytesI a ++ Inode.bytesI b] := by
  rw [take_two ha hb]
  have hl : (l.take q).length = q := by
    have := (List.getElem?_eq_some_iff.1 ha).1
    rw [List.length_take]
    omega
  exact pairs_snoc (by rw [hl]; exact hq)
/-- The first three sectors. -/
def heads (m : Met) : List (List UInt8) := [Intern.bytesOf m.rows, padl (ownL m.own) 64, m.used]
theorem secs_heads (m : Met) : secs m = heads m ++ pairs m.ino := rfl
theorem heads_own {w : World} {base g : Nat} {m : Met} {A0 A1 A2 : Option Addr} {c0 c1 c2 n0 n1 n2 : Nat} (l0 : (Intern.bytesOf m.rows).length = n0) (l1 : (padl (ownL m.own) 64).length = n1) (l2 : m.used.length = n2)
    (hg : Bk w g 37 [.slice A0 n0 c0, .slice A1 n1 c1, .slice A2 n2 c2]) (hb : base ≤ g)
    (h0 : w.ownsRow base 5 1 (.slice A0 n0 c0) n0 (bytesV (Intern.bytesOf m.rows))) (h1 : w.ownsRow base 5 1 (.slice A1 n1 c1) n1 (bytesV (padl (ownL m.own) 64))) (h2 : w.ownsRow base 5 1 (.slice A2 n2 c2) n2 (bytesV m.used)) :
    SecsOwn w base (.slice (some ⟨g, 0, none⟩) 3 3) [⟨A0, c0⟩, ⟨A1, c1⟩, ⟨A2, c2⟩] (heads m) := by
  subst l0 l1 l2
  refine ⟨rfl, hg.own 3 rfl hb (by decide), fun i s b e1 e2 => ?_⟩
  match i with
  | 0 =>
    obtain rfl : _ = s := Option.some.inj (show some (⟨A0, c0⟩ : Sc) = some s from e1)
    obtain rfl : _ = b := Option.some.inj (show some (Intern.bytesOf m.rows) = some b from e2)
    exact h0
  | 1 =>
    obtain rfl : _ = s := Option.some.inj (show some (⟨A1, c1⟩ : Sc) = some s from e1)
    obtain rfl : _ = b := Option.some.inj (show some (padl (ownL m.own) 64) = some b from e2)
    exact h1
  | 2 =>
    obtain rfl : _ = s := Option.some.inj (show some (⟨A2, c2⟩ : Sc) = some s from e1)
    obtain rfl : _ = b := Option.some.inj (show some m.used = some b from e2)
    exact h2
  | k + 3 => simp at e1
theorem bk_ne {w : World} {g base : Nat} {e1 e2 : TypeId} {s n : Nat} {v : Value} {xs ys : List Value} (h1 : Bk w g e1 xs) (h2 : w.ownsRow base e2 s v n ys) (hne : e1 ≠ e2) : some g ≠ v.ownBlock := by
  rcases h2.2 with ⟨rfl, _⟩ | ⟨g2, c2, cur2, rfl, _, hg2, _⟩
  · simp [Value.ownBlock]
  · intro h
    have e : g = g2 := by simpa [Value.ownBlock] using h
    subst e
    unfold Bk at h1
    rw [h1] at hg2
    simp only [Option.some.injEq, Obj.cells.injEq] at hg2
    exact hne hg2.2.1
theorem al_below (w : World) (o : Obj) : Below w.heap.size w (w.alloc o) := (Below.refl _ w).alloc (Nat.le_refl _) _
theorem lit_own (w : World) {base : Nat} (h : base ≤ w.heap.size) : (w.alloc (.cells #[] 5)).ownsRow base 5 1 (.slice (some ⟨w.heap.size, 0, none⟩) 0 0) 0 (bytesV []) := World.ownsRow_lit w #[] 0 h (by decide) rfl
theorem lit_grown {w w' : World} {o : Obj} (hg : (w.alloc o).grownBy w' (some w.heap.size)) : Below w.heap.size w w' :=
  ((Below.refl w.heap.size w).alloc (Nat.le_refl _) _).grown hg (by simp) (fun k hk => by injection hk with hk; omega)
theorem size_ino' (n : Inode.Ino) (h : Inode.Oki n) : (Tryz.prog.info? 40).map (·.size) = some (Inode.cellsI n).length := by rw [size_ino, Inode.length_cellsI h]
theorem own_slice {w : World} {base : Nat} {e : TypeId} {v : Value} {n : Nat} {xs : List Value} (h : w.ownsRow base e 1 v n xs) : ∃ A c, v = .slice A n c := by
  obtain ⟨_, A, c, hv, _⟩ := own_rd h
  exact ⟨A, c, hv⟩
end Go.Proofs.YtcjkbmmjpkghlaaGreat.Meta
