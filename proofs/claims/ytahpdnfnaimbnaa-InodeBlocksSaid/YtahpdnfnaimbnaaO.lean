/-
  Arguments: an inode, a slice of ints.
-/
import Derived.Test.YtahpdnfnaimbnaaC
import Derived.Test.YtahpdnfnaimbnaaX10
import Derived.Test.YtahpdnfnaimbnaaX11
import Derived.Lib.SmallJoins
namespace Go.Proofs.Ytahpdnfnaimbnaa
open Go.RowKit Go.ChangeShapes Go.WideShapes Go.ChangeAt Go.Deep Go.Joins Inode

theorem own : ownKnob Try.prog.godebug = none := by kernel_rfl
theorem laid : laidOutB Try.prog = true := by kernel_rfl
theorem cells5 : Try.prog.cellsOf 5 = 1 := by kernel_rfl
theorem cells22 : Try.prog.cellsOf 22 = 8 := by kernel_rfl
theorem cells24 : Try.prog.cellsOf 24 = 14 := by kernel_rfl
theorem u8_nat {n : Int} (h : (Lit.int .u8 n).wf = true) : ∃ m : Nat, n = (m : Int) ∧ m < 256 := by
  have := bounds_u8 h
  exact ⟨n.toNat, by omega, by omega⟩
theorem seven_some {α : Type} {l : List α} (h : l.length = 7) : ∃ a b c d e f g, l = [a, b, c, d, e, f, g] := by
  match l, h with
  | [a, b, c, d, e, f, g], _ => exact ⟨a, b, c, d, e, f, g, rfl⟩
theorem eight_some {α : Type} {l : List α} (h : l.length = 8) : ∃ a b c d e f g i, l = [a, b, c, d, e, f, g, i] := by
  match l, h with
  | [a, b, c, d, e, f, g, i], _ => exact ⟨a, b, c, d, e, f, g, i, rfl⟩
theorem fourteen_some {α : Type} {l : List α} (h : l.length = 14) : ∃ a b c d e f g i j k m n o p, l = [a, b, c, d, e, f, g, i, j, k, m, n, o, p] := by
  match l, h with
  | [a, b, c, d, e, f, g, i, j, k, m, n, o, p], _ => exact ⟨a, b, c, d, e, f, g, i, j, k, m, n, o, p, rfl⟩

section
variable {H : Type} {enc : TypeId × Value → H} {W : World}
set_option maxRecDepth 100000 in
/-- An inode that came in. -/
theorem open_ino {base : Nat} {v : Value} {d : DataW H} {p : List MemPlace} (hval : Value.okWide Try.prog W .any base 24 v) (h : DataW.Trod enc Try.prog W 0 (fun _ => true) true 24 v d p) :
    ∃ n : Ino, v = inoV n ∧ Oki n := by
  have hl : (Try.prog.fieldsOf 24).toList.length = 7 := by kernel_rfl
  have hm : (Try.prog.fieldsOf 24).toList.map (fun f => (f.type, f.offset)) = [(5, 0), (5, 1), (3, 2), (3, 3), (22, 4), (3, 12), (3, 13)] := by kernel_rfl
  obtain ⟨f0, f1, f2, f3, f4, f5, f6, e⟩ := seven_some hl
  have e' : Try.prog.fieldsOf 24 = #[f0, f1, f2, f3, f4, f5, f6] := by rw [← Array.toList_inj]; exact e
  rw [e] at hm
  simp only [List.map_cons, List.map_nil, List.cons.injEq, Prod.mk.injEq, and_true] at hm
  obtain ⟨⟨t0, o0⟩, ⟨t1, o1⟩, ⟨t2, o2⟩, ⟨t3, o3⟩, ⟨t4, o4⟩, ⟨t5, o5⟩, t6, o6⟩ := hm
  have hs : Try.prog.underlying 24 = some (.struct #[f0, f1, f2, f3, f4, f5, f6]) := by rw [under24, e']
  obtain ⟨cs, rfl, hsz⟩ := okWide_struct hs hval
  obtain ⟨l, rfl⟩ : ∃ l : List Value, cs = l.toArray := ⟨cs.toList, by simp⟩
  rw [cells24] at hsz
  obtain ⟨c0, c1, c2, c3, c4, c5, c6, c7, c8, c9, c10, c11, c12, c13, rfl⟩ := fourteen_some (show l.length = 14 by simpa using hsz)
  obtain ⟨fuel, hf⟩ := h
  obtain ⟨xs, n, _, _, _, hlen, hfs⟩ := DataW.trod_struct hs hf
  obtain ⟨y0, y1, y2, y3, y4, y5, y6, rfl⟩ := seven_some (show xs.length = 7 by simpa using hlen)
  have h0 := hfs 0 f0 rfl
  have h1 := hfs 1 f1 rfl
  have h2 := hfs 2 f2 rfl
  have h3 := hfs 3 f3 rfl
  have h4 := hfs 4 f4 rfl
  have h5 := hfs 5 f5 rfl
  have h6 := hfs 6 f6 rfl
  rw [t0, o0, cells5] at h0
  rw [t1, o1, cells5] at h1
  rw [t2, o2, cells3] at h2
  rw [t3, o3, cells3] at h3
  rw [t4, o4, cells22] at h4
  rw [t5, o5, cells3] at h5
  rw [t6, o6, cells3] at h6
  have h0 : DataW.trod enc Try.prog W 0 (fun _ => true) true n 5 [c0] = some y0 := h0
  have h1 : DataW.trod enc Try.prog W 0 (fun _ => true) true n 5 [c1] = some y1 := h1
  have h2 : DataW.trod enc Try.prog W 0 (fun _ => true) true n 3 [c2] = some y2 := h2
  have h3 : DataW.trod enc Try.prog W 0 (fun _ => true) true n 3 [c3] = some y3 := h3
  have h4 : DataW.trod enc Try.prog W 0 (fun _ => true) true n 22 [c4, c5, c6, c7, c8, c9, c10, c11] = some y4 := h4
  have h5 : DataW.trod enc Try.prog W 0 (fun _ => true) true n 3 [c12] = some y5 := h5
  have h6 : DataW.trod enc Try.prog W 0 (fun _ => true) true n 3 [c13] = some y6 := h6
  obtain ⟨zs, m, _, _, _, hzl, hz⟩ := DataW.trod_array Try.underlying22 h4
  obtain ⟨z0, z1, z2, z3, z4, z5, z6, z7, rfl⟩ := eight_some hzl
  rw [cells3] at hz
  have g0 : DataW.trod enc Try.prog W 0 (fun _ => true) true m 3 [c4] = some z0 := hz 0 (by omega)
  have g1 : DataW.trod enc Try.prog W 0 (fun _ => true) true m 3 [c5] = some z1 := hz 1 (by omega)
  have g2 : DataW.trod enc Try.prog W 0 (fun _ => true) true m 3 [c6] = some z2 := hz 2 (by omega)
  have g3 : DataW.trod enc Try.prog W 0 (fun _ => true) true m 3 [c7] = some z3 := hz 3 (by omega)
  have g4 : DataW.trod enc Try.prog W 0 (fun _ => true) true m 3 [c8] = some z4 := hz 4 (by omega)
  have g5 : DataW.trod enc Try.prog W 0 (fun _ => true) true m 3 [c9] = some z5 := hz 5 (by omega)
  have g6 : DataW.trod enc Try.prog W 0 (fun _ => true) true m 3 [c10] = some z6 := hz 6 (by omega)
  have g7 : DataW.trod enc Try.prog W 0 (fun _ => true) true m 3 [c11] = some z7 := hz 7 (by omega)
  obtain ⟨k, hk, _, wk⟩ := DataW.trod_int Try.underlying5 h0
  obtain ⟨r, hr, _, wr⟩ := DataW.trod_int Try.underlying5 h1
  obtain ⟨s2, hs2, _, _⟩ := DataW.trod_int Try.underlying3 h2
  obtain ⟨s3, hs3, _, _⟩ := DataW.trod_int Try.underlying3 h3
  obtain ⟨p0, hp0, _, _⟩ := DataW.trod_int Try.underlying3 g0
  obtain ⟨p1, hp1, _, _⟩ := DataW.trod_int Try.underlying3 g1
  obtain ⟨p2, hp2, _, _⟩ := DataW.trod_int Try.underlying3 g2
  obtain ⟨p3, hp3, _, _⟩ := DataW.trod_int Try.underlying3 g3
  obtain ⟨p4, hp4, _, _⟩ := DataW.trod_int Try.underlying3 g4
  obtain ⟨p5, hp5, _, _⟩ := DataW.trod_int Try.underlying3 g5
  obtain ⟨p6, hp6, _, _⟩ := DataW.trod_int Try.underlying3 g6
  obtain ⟨p7, hp7, _, _⟩ := DataW.trod_int Try.underlying3 g7
  obtain ⟨p8, hp8, _, _⟩ := DataW.trod_int Try.underlying3 h5
  obtain ⟨p9, hp9, _, _⟩ := DataW.trod_int Try.underlying3 h6
  obtain ⟨k', rfl, bk⟩ := u8_nat wk
  obtain ⟨r', rfl, br⟩ := u8_nat wr
  simp only [List.cons.injEq, and_true] at hk hr hs2 hs3 hp0 hp1 hp2 hp3 hp4 hp5 hp6 hp7 hp8 hp9
  exact ⟨⟨k', r', s2, s3, [p0, p1, p2, p3, p4, p5, p6, p7, p8, p9]⟩, by rw [hk, hr, hs2, hs3, hp0, hp1, hp2, hp3, hp4, hp5, hp6, hp7, hp8, hp9]; rfl, rfl, bk, br⟩
end

section
variable {H : Type} {enc : TypeId × Value → H} {P : Program}
theorem open_intsL {t e : TypeId} (ht : P.underlying t = some (.slice e)) (he : P.underlying e = some (.int .i64)) (hc : P.cellsOf e = 1) {W : World} {base : Nat} {v : Value} {d : DataW H} {p : List MemPlace}
    (hval : Value.okWide P W .any base t v) (h : DataW.Trod enc P W 0 (fun _ => true) true t v d p) (hlt : ∀ x ∈ p, x.block < W.heap.size) :
    ∃ (A : Option Addr) (n c : Nat) (l : List Int), v = .slice A n c ∧ l.length = n ∧ n ≤ c ∧ c ≤ maxLen ∧ Rd W W.heap.size A (intsV l) := by
  obtain ⟨a1, len, cap, rfl⟩ := okWide_slice ht hval
  obtain ⟨fuel, hf⟩ := h
  rcases open_ints ht he hc hf with ⟨hcs, hx⟩ | ⟨a, len', cap', zs, hcs, _, hl, hm, hz, hx, hcell, hwz⟩
  · simp [Value.cells] at hcs
    obtain ⟨rfl, rfl, rfl⟩ := hcs
    exact ⟨none, 0, 0, [], rfl, rfl, Nat.le_refl _, Nat.zero_le _, .inl rfl⟩
  · simp [Value.cells] at hcs
    obtain ⟨rfl, rfl, rfl⟩ := hcs
    simp only [Prod.mk.injEq] at hx
    obtain ⟨rfl, rfl⟩ := hx
    simp only [if_true] at hz
    refine ⟨some a, len, cap, zs.take len, rfl, by simp; omega, hl, hm, ?_⟩
    by_cases h0 : len = 0
    · subst h0; exact .inl (by simp [intsV])
    · obtain ⟨ab, ao, spot⟩ := a
      have hspot : spot = none := by simpa [Addr.add] using World.cell?_spot (hcell 0 (by omega))
      subst hspot
      refine .inr ⟨ab, ao, rfl, hlt (.cell ab ao) (by simp only [MemPlace.row, List.mem_map, List.mem_range]; exact ⟨0, by omega, rfl⟩), fun j u hu => ?_⟩
      have hj : j < len := by
        have := (List.getElem?_eq_some_iff.1 hu).1
        simp [intsV] at this
        omega
      have hcj := hcell j (by omega)
      rw [Addr.add_lit] at hcj
      rw [hcj, ← hu]
      have e2 : zs[j]? = some (zs[j]'(by omega)) := List.getElem?_eq_getElem (by omega)
      simp [intsV, hj, e2]
end
end Go.Proofs.Ytahpdnfnaimbnaa
