/-
  Arguments: a geometry.
-/
import Derived.Test.YtcedpmakomhigaaC
import Derived.Test.YtcedpmakomhigaaF
import Derived.Lib.SmallJoins
namespace Go.Proofs.Ytcedpmakomhigaa
open Go.RowKit Go.ChangeShapes Go.WideShapes Go.ChangeAt Go.Deep Go.Joins

theorem own : ownKnob Try.prog.godebug = none := by kernel_rfl
theorem laid : laidOutB Try.prog = true := by kernel_rfl
theorem cells5 : Try.prog.cellsOf 5 = 1 := by kernel_rfl

/-- An int is one. -/
def I64 (s : Int) : Prop := -9223372036854775808 ≤ s ∧ s ≤ 9223372036854775807
theorem i64_of {n : Int} (h : (Lit.int .i64 n).wf = true) : I64 n := by
  have := bounds_i64 h
  exact ⟨by omega, by omega⟩
theorem four_of {α : Type} {l : List α} (h : l.length = 4) : ∃ a b c d, l = [a, b, c, d] := by
  match l, h with
  | [a, b, c, d], _ => exact ⟨a, b, c, d, rfl⟩

section
variable {H : Type} {enc : TypeId × Value → H} {W : World}
set_option maxRecDepth 100000 in
/-- A geometry that came in. -/
theorem open_geo {base : Nat} {v : Value} {d : DataW H} {p : List MemPlace} (hval : Value.okWide Try.prog W .any base 23 v) (h : DataW.Trod enc Try.prog W 0 (fun _ => true) true 23 v d p) :
    ∃ a b c d : Int, v = geoV a b c d ∧ I64 a ∧ I64 b ∧ I64 c ∧ I64 d := by
  have hl : (Try.prog.fieldsOf 23).toList.length = 4 := by kernel_rfl
  have hm : (Try.prog.fieldsOf 23).toList.map (fun f => f.type) = [3, 3, 3, 3] := by kernel_rfl
  obtain ⟨f0, f1, f2, f3, e⟩ := four_of hl
  have e' : Try.prog.fieldsOf 23 = #[f0, f1, f2, f3] := by rw [← Array.toList_inj]; exact e
  rw [e] at hm
  simp only [List.map_cons, List.map_nil, List.cons.injEq, and_true] at hm
  have hs : Try.prog.underlying 23 = some (.struct #[f0, f1, f2, f3]) := by rw [under23, e']
  have hone : oneCellFields Try.prog #[f0, f1, f2, f3] = true := by rw [← e']; kernel_rfl
  obtain ⟨v0, v1, v2, v3, y0, y1, y2, y3, n, rfl, _, _, h0, h1, h2, h3⟩ := open_agg4 hs hone (by kernel_rfl) hval h
  rw [hm.1] at h0
  rw [hm.2.1] at h1
  rw [hm.2.2.1] at h2
  rw [hm.2.2.2] at h3
  obtain ⟨a, ha, _, wa⟩ := DataW.trod_int Try.underlying3 h0
  obtain ⟨b, hb, _, wb⟩ := DataW.trod_int Try.underlying3 h1
  obtain ⟨c, hc, _, wc⟩ := DataW.trod_int Try.underlying3 h2
  obtain ⟨d, hd, _, wd⟩ := DataW.trod_int Try.underlying3 h3
  simp only [List.cons.injEq, and_true] at ha hb hc hd
  exact ⟨a, b, c, d, by rw [ha, hb, hc, hd]; rfl, i64_of wa, i64_of wb, i64_of wc, i64_of wd⟩
end

/-- A valid geometry's numbers are not below 0. -/
theorem Valid.nats {j i g p : Int} (h : Valid j i g p) : ∃ J I G P : Nat, j = J ∧ i = I ∧ g = G ∧ p = P := by
  obtain ⟨j1, j2, i1, i2, i3, g1, g2, p1, gp⟩ := h
  exact ⟨j.toNat, i.toNat, g.toNat, p.toNat, by omega, by omega, by omega, by omega⟩
end Go.Proofs.Ytcedpmakomhigaa
