/-
  Arguments: a slice of acts, a patch.
-/
import Derived.Test.YtnmfpgeojggjbaaC
import Derived.Test.YtnmfpgeojggjbaaH
import Derived.Deep.Slices
import Derived.Deep.Fields
import Derived.ChangeSame
import Derived.Lib.SmallJoins
namespace Go.Proofs.Ytnmfpgeojggjbaa
open Go.RowKit Go.ChangeShapes Go.WideShapes Go.ChangeAt Go.Deep Go.Joins

theorem own : ownKnob Try.prog.godebug = none := by kernel_rfl
theorem laid : laidOutB Try.prog = true := by kernel_rfl

theorem u8_nat {n : Int} (h : (Lit.int .u8 n).wf = true) : ∃ m : Nat, n = (m : Int) ∧ m < 256 := by
  have := bounds_u8 h
  exact ⟨n.toNat, by omega, by omega⟩
theorem u64_nat {n : Int} (h : (Lit.int .u64 n).wf = true) : ∃ m : Nat, n = (m : Int) ∧ m < 18446744073709551616 := by
  have := bounds_u64 h
  exact ⟨n.toNat, by omega, by omega⟩

section
variable {H : Type} {enc : TypeId × Value → H} {W : World}

/-- A patch that came in. -/
theorem open_patch {base : Nat} {v : Value} {d : DataW H} {p : List MemPlace} (hval : Value.okWide Try.prog W .any base 41 v) (h : DataW.Trod enc Try.prog W 0 (fun _ => true) true 41 v d p) : ∃ (s : Int) (v1 v2 : Value), v = .agg #[.int .i64 s, v1, v2] := by
  obtain ⟨v0, v1, v2, y0, y1, y2, n, rfl, rfl, rfl, h0, h1, h2⟩ := open_agg3 Try.underlying41 (by kernel_rfl) (by kernel_rfl) hval h
  obtain ⟨s, hs, _, _⟩ := DataW.trod_int Try.underlying3 h0
  cases hs
  exact ⟨s, v1, v2, rfl⟩

theorem one_cells4 {w : World} {b base : Nat} {a : Addr} {cs : List Value} (h : w.cells? base (a.add (b * 4)) 4 = some cs) : cs.length = 4 ∧ ∀ j, (hj : j < 4) → w.cell? ((a.add (b * 4)).add j) = cs[j]? := by
  obtain ⟨_, hcl, hat⟩ := World.cells?_some h
  exact ⟨hcl, fun j hj => hat j hj⟩

set_option maxRecDepth 100000 in
/-- One act, out of its cells. -/
theorem open_act {fuel base : Nat} {sp : Nat → Bool} {cs : List Value} {x : DataW H × List MemPlace} (hcl : cs.length = 4) (h : DataW.trod enc Try.prog W base sp true fuel 35 cs = some x) : ∃ a : Act, cs = a.cells ∧ a.Good := by
  obtain ⟨xs, n, _, hx, _, hlen, hf⟩ := DataW.trod_struct Try.underlying35 h
  obtain ⟨c0, c1, c2, c3, rfl⟩ : ∃ c0 c1 c2 c3, cs = [c0, c1, c2, c3] := by
    match cs, hcl with
    | [c0, c1, c2, c3], _ => exact ⟨c0, c1, c2, c3, rfl⟩
  obtain ⟨y0, y1, y2, y3, rfl⟩ : ∃ y0 y1 y2 y3, xs = [y0, y1, y2, y3] := by
    match xs, hlen with
    | [y0, y1, y2, y3], _ => exact ⟨y0, y1, y2, y3, rfl⟩
  have k5 : Try.prog.cellsOf 5 = 1 := by kernel_rfl
  have k3 : Try.prog.cellsOf 3 = 1 := by kernel_rfl
  have k33 : Try.prog.cellsOf 33 = 1 := by kernel_rfl
  have h0 : DataW.trod enc Try.prog W base sp true n 5 [c0] = some y0 := by simpa [k5] using hf 0 _ rfl
  have h1 : DataW.trod enc Try.prog W base sp true n 3 [c1] = some y1 := by simpa [k3] using hf 1 _ rfl
  have h2 : DataW.trod enc Try.prog W base sp true n 5 [c2] = some y2 := by simpa [k5] using hf 2 _ rfl
  have h3 : DataW.trod enc Try.prog W base sp true n 33 [c3] = some y3 := by simpa [k33] using hf 3 _ rfl
  obtain ⟨z0, e0, _, w0⟩ := DataW.trod_int Try.underlying5 h0
  obtain ⟨z1, e1, _, w1⟩ := DataW.trod_int Try.underlying3 h1
  obtain ⟨z2, e2, _, w2⟩ := DataW.trod_int Try.underlying5 h2
  obtain ⟨m0, rfl, b0⟩ := u8_nat w0
  obtain ⟨m2, rfl, b2⟩ := u8_nat w2
  obtain ⟨A, bn, bc, e3, hb⟩ : ∃ A bn bc, c3 = .slice A bn bc ∧ bn ≤ bc := by
    rcases DataW.trod_slice Try.underlying33 h3 with ⟨hs, _⟩ | ⟨a, len, cap, elems, rest, _, _, hs, _, _, hl, _⟩
    · exact ⟨none, 0, 0, by simpa using hs, Nat.le_refl _⟩
    · exact ⟨some a, len, cap, by simpa using hs, hl⟩
  cases e0; cases e1; cases e2; subst e3
  exact ⟨⟨m0, z1, m2, A, bn, bc⟩, rfl, b0, of_wf w1, b2, hb⟩

set_option maxRecDepth 100000 in
theorem open_actsL {base : Nat} {v : Value} {d : DataW H} {p : List MemPlace} (hval : Value.okWide Try.prog W .any base 22 v) (h : DataW.Trod enc Try.prog W 0 (fun _ => true) true 22 v d p) (hlt : ∀ x ∈ p, x.block < W.heap.size) :
    ∃ (A : Option Addr) (n c : Nat) (l : List Act), v = .slice A n c ∧ l.length = n ∧ n ≤ c ∧ c ≤ maxLen ∧ Acts W W.heap.size A l := by
  obtain ⟨a1, len, cap, rfl⟩ := okWide_slice Try.underlying22 hval
  obtain ⟨fuel, hf⟩ := h
  have k35 : Try.prog.cellsOf 35 = 4 := by kernel_rfl
  rcases open_slice Try.underlying22 hf with ⟨hcs, hx⟩ | ⟨a, len', cap', m, n, D, Pl, hcs, _, hl, hm, hmm, hx, hi⟩
  · simp [Value.cells] at hcs
    obtain ⟨rfl, rfl, rfl⟩ := hcs
    exact ⟨none, 0, 0, [], rfl, rfl, Nat.le_refl _, Nat.zero_le _, .inl rfl⟩
  · simp [Value.cells] at hcs
    obtain ⟨rfl, rfl, rfl⟩ := hcs
    simp only [Prod.mk.injEq] at hx
    obtain ⟨rfl, rfl⟩ := hx
    simp only [if_true] at hmm
    subst hmm
    rw [k35] at hi
    have hat : ∀ i, ∃ x : Act, i < len → x.Good ∧ ∀ j u, x.cells[j]? = some u → W.cell? ((a.add (i * 4)).add j) = some u := by
      intro i
      by_cases hlt' : i < len
      · obtain ⟨cs', hc, ht⟩ := hi i (by omega)
        obtain ⟨hcl, hcc⟩ := one_cells4 hc
        obtain ⟨x, rfl, hg⟩ := open_act hcl ht
        exact ⟨x, fun _ => ⟨hg, fun j u hu => by rw [hcc j (by have := (List.getElem?_eq_some_iff.1 hu).1; simpa [Act.cells] using this), hu]⟩⟩
      · exact ⟨⟨0, 0, 0, none, 0, 0⟩, fun h => absurd h hlt'⟩
    obtain ⟨F, hF⟩ := Classical.axiomOfChoice hat
    refine ⟨some a, len, _, (List.range len).map F, rfl, by simp, hl, hm, ?_⟩
    by_cases h0 : len = 0
    · subst h0; exact .inl rfl
    · obtain ⟨ab, ao, spot⟩ := a
      have hspot : spot = none := by
        have := (hF 0 (by omega)).2 0 _ rfl
        simpa [Addr.add] using World.cell?_spot this
      subst hspot
      refine .inr ⟨ab, ao, rfl, ?_, fun i x hx => ?_⟩
      · refine hlt (.cell ab ao) ?_
        simp only [MemPlace.row, List.mem_append, List.mem_map, List.mem_range]
        exact .inl ⟨0, by rw [k35]; omega, rfl⟩
      · rw [List.getElem?_map] at hx
        have hil : i < len := by
          rcases Nat.lt_or_ge i len with h | h
          · exact h
          · rw [List.getElem?_eq_none (by simpa using h)] at hx; cases hx
        rw [List.getElem?_range hil] at hx
        obtain rfl : F i = x := by simpa using hx
        refine ⟨(hF i hil).1, fun j u hu => ?_⟩
        have := (hF i hil).2 j u hu
        rw [Addr.add_mid, Addr.add_mid] at this
        exact this
end
end Go.Proofs.Ytnmfpgeojggjbaa
