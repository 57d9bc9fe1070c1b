/-
  Which of what is known may be, as the document answers.
-/
import Derived.Test.YtcjkbmmjpkghlaaGreatQMetaA
import Derived.Test.YtcjkbmmjpkghlaaGreatQSuper
import Derived.Test.YtcjkbmmjpkghlaaGreatQInternA
import Derived.Test.YtcjkbmmjpkghlaaGreatQInodeA
import Derived.Test.YtcjkbmmjpkghlaaGreatQBits
import Derived.WalkMore
import Derived.Deep.DeepCutAuto
namespace Go.Proofs.YtcjkbmmjpkghlaaGreat.Meta
open Go.Proofs.YtcjkbmmjpkghlaaGreat
open Go.RowKit

theorem not_geo {G : Geo} {m : Met} (h : ¬ G.Ok) : rightB G m = false := rightB_no fun h' => h h'.geo
theorem not_rows {G : Geo} {m : Met} (h : Intern.rightB m.rows = false) : rightB G m = false := rightB_no fun h' => by
  rw [Intern.rightB_yes h'.rows] at h
  cases h
theorem not_olen {G : Geo} {m : Met} (h : (m.own.length : Int) ≠ G.g) : rightB G m = false := rightB_no fun h' => h h'.olen
theorem not_ulen {G : Geo} {m : Met} (h : m.used.length ≠ 64) : rightB G m = false := rightB_no fun h' => h h'.ulen
theorem not_ilen {G : Geo} {m : Met} (h : (m.ino.length : Int) ≠ G.i) : rightB G m = false := rightB_no fun h' => h h'.ilen
theorem not_own {G : Geo} {m : Met} {j : Nat} {x : Int} (hx : m.own[j]? = some x) (h : ¬ (0 ≤ x ∧ x ≤ 16)) : rightB G m = false := rightB_no fun h' => h (h'.own x (List.mem_of_getElem? hx))
theorem not_used {G : Geo} {m : Met} {k : Nat} (h0 : G.g * G.p ≤ (k : Int)) (h1 : k < 512) (h : Bits.hb m.used k = true) : rightB G m = false := rightB_no fun h' => by
  rw [h'.used k h0 h1] at h
  cases h
theorem not_ino {G : Geo} {m : Met} {j : Nat} {n : Inode.Ino} (hx : m.ino[j]? = some n) (h : Inode.rightB n = false) : rightB G m = false := rightB_no fun h' => by
  rw [Inode.rightB_yes (h'.ino n (List.mem_of_getElem? hx))] at h
  cases h
theorem take_all {α : Type} {P : α → Prop} {l : List α} {j : Nat} {x : α} (h : ∀ y ∈ l.take j, P y) (hx : l[j]? = some x) (hp : P x) : ∀ y ∈ l.take (j + 1), P y := by
  intro y hy
  rw [List.take_add_one, hx] at hy
  rcases List.mem_append.1 hy with hy | hy
  · exact h y hy
  · have : y = x := by simpa using hy
    rw [this]; exact hp
theorem ret_b {a b : Bool} (h : a = b) : Ending.returned (.bool b) = .returned (.bool a) := by rw [h]
theorem size_ino : (Tryz.prog.info? 40).map (·.size) = some 14 := by kernel_rfl
theorem take_none {α : Type} {P : α → Prop} {l : List α} : ∀ y ∈ l.take 0, P y := fun y hy => by simp at hy
theorem rightB_or (n : Inode.Ino) (h : Inode.rightB n = true) : Inode.Right n := by
  by_cases hr : Inode.Right n
  · exact hr
  · rw [Inode.rightB_no hr] at h
    cases h
theorem rightR_or (l : List Intern.Rw) (h : Intern.rightB l = true) : Intern.Right l := by
  by_cases hr : Intern.Right l
  · exact hr
  · rw [Intern.rightB_no hr] at h
    cases h
end Go.Proofs.YtcjkbmmjpkghlaaGreat.Meta
