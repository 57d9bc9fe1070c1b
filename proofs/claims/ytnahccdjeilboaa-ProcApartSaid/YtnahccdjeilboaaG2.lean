/-
  Two variables beside a table.
  No condition is set.
-/
import Derived.Test.YtnahccdjeilboaaG
import Derived.Deep.RegionHeld3
namespace Go.Proofs.Ytnahccdjeilboaa.Prc
open Go.RowKit Apart
section
variable {W u w' : World} {b : Nat} {t : Tb} {D : Asr} {xs : List Value}
theorem star_unassoc {A C D : Asr} {P : Nat → Prop} {w : World} (h : star A (star C D) P w) : star (star A C) D P w :=
  star_imp (star_comm (star_assoc (star_imp (star_comm h) (fun _ h => star_comm h) (fun _ h => h)))) (fun _ h => star_comm h) (fun _ h => h)
theorem St.flip {g1 g2 : Nat} {e1 e2 : TypeId} {ys : List Value} (h : St W b t (star (star D (Bx g1 e1 xs)) (Bx g2 e2 ys)) u) : St W b t (star (star D (Bx g2 e2 ys)) (Bx g1 e1 xs)) u :=
  h.weak fun P hP => ⟨P, star_unassoc (star_imp (star_assoc hP) (fun _ h => h) (fun _ h => star_comm h)), fun _ hi => hi⟩
/-- The one below is set. -/
theorem St.put1 {g1 g2 : Nat} {e1 e2 : TypeId} {ys : List Value} (hD : Lcl D) (h : St W b t (star (star D (Bx g1 e1 xs)) (Bx g2 e2 ys)) u) (i : Nat) (v : Value) : St W b t (star (star D (Bx g1 e1 (xs.set i v))) (Bx g2 e2 ys)) (u.setCell ⟨g1, i, none⟩ v) :=
  (St.put (hD.star (bx_lcl _ _ _)) h.flip i v).flip
end
end Go.Proofs.Ytnahccdjeilboaa.Prc
