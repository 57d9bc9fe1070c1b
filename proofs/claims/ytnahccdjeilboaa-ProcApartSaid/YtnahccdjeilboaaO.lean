/-
  Arguments: a slice of acts, an act.
  No condition is set.
-/
import Derived.Test.YtnahccdjeilboaaC
import Derived.Test.YtnahccdjeilboaaWd
import Derived.Deep.Slices
import Derived.Deep.Fields
import Derived.ChangeSame
import Derived.Lib.SmallJoins
namespace Go.Proofs.Ytnahccdjeilboaa.Prc
open Go.RowKit Go.ChangeShapes Go.WideShapes Go.ChangeAt Go.Deep Go.Joins

theorem own : ownKnob Try.prog.godebug = none := by kernel_rfl
theorem laid : laidOutB Try.prog = true := by kernel_rfl

theorem u8_nat {n : Int} (h : (Lit.int .u8 n).wf = true) : ∃ m : Nat, n = (m : Int) ∧ m < 256 := by
  have := bounds_u8 h
  exact ⟨n.toNat, by omega, by omega⟩
theorem u16_nat {n : Int} (h : (Lit.int .u16 n).wf = true) : ∃ m : Nat, n = (m : Int) ∧ m < 65536 := by
  have := bounds_u16 h
  exact ⟨n.toNat, by omega, by omega⟩
section
variable {H : Type} {enc : TypeId × Value → H} {W : World}
theorem one_cells5 {w : World} {b base : Nat} {a : Addr} {cs : List Value} (h : w.cells? base (a.add (b * 5)) 5 = some cs) : cs.length = 5 ∧ ∀ j, (hj : j < 5) → w.cell? ((a.add (b * 5)).add j) = cs[j]? := by
  obtain ⟨_, hcl, hat⟩ := World.cells?_some h
  exact ⟨hcl, fun j hj => hat j hj⟩

/-- One act, out of its cells. -/
theorem open_act {fuel base : Nat} {sp : Nat → Bool} {cs : List Value} {x : DataW H × List MemPlace} (hcl : cs.length = 5) (h : DataW.trod enc Try.prog W base sp true fuel 35 cs = some x) : ∃ a : Act, cs = a.cells ∧ a.Good := by
  obtain ⟨xs, n, _, hx, _, hlen, hf⟩ := DataW.trod_struct Try.underlying35 h
  obtain ⟨c0, c1, c2, c3, c4, rfl⟩ : ∃ c0 c1 c2 c3 c4, cs = [c0, c1, c2, c3, c4] := by
    match cs, hcl with
    | [c0, c1, c2, c3, c4], _ => exact ⟨c0, c1, c2, c3, c4, rfl⟩
  obtain ⟨y0, y1, y2, y3, y4, rfl⟩ : ∃ y0 y1 y2 y3 y4, xs = [y0, y1, y2, y3, y4] := by
    match xs, hlen with
    | [y0, y1, y2, y3, y4], _ => exact ⟨y0, y1, y2, y3, y4, rfl⟩
  have k5 : Try.prog.cellsOf 5 = 1 := by kernel_rfl
  have k3 : Try.prog.cellsOf 3 = 1 := by kernel_rfl
  have k33 : Try.prog.cellsOf 33 = 1 := by kernel_rfl
  have h0 : DataW.trod enc Try.prog W base sp true n 5 [c0] = some y0 := by simpa [k5] using hf 0 _ rfl
  have h1 : DataW.trod enc Try.prog W base sp true n 3 [c1] = some y1 := by simpa [k3] using hf 1 _ rfl
  have h2 : DataW.trod enc Try.prog W base sp true n 3 [c2] = some y2 := by simpa [k3] using hf 2 _ rfl
  have h3 : DataW.trod enc Try.prog W base sp true n 3 [c3] = some y3 := by simpa [k3] using hf 3 _ rfl
  have h4 : DataW.trod enc Try.prog W base sp true n 33 [c4] = some y4 := by simpa [k33] using hf 4 _ rfl
  obtain ⟨z0, e0, _, w0⟩ := DataW.trod_int Try.underlying5 h0
  obtain ⟨z1, e1, _, w1⟩ := DataW.trod_int Try.underlying3 h1
  obtain ⟨z2, e2, _, w2⟩ := DataW.trod_int Try.underlying3 h2
  obtain ⟨z3, e3, _, w3⟩ := DataW.trod_int Try.underlying3 h3
  obtain ⟨z4, e4, _, w4⟩ := DataW.trod_int Try.underlying33 h4
  obtain ⟨m0, rfl, b0⟩ := u8_nat w0
  obtain ⟨m4, rfl, b4⟩ := u16_nat w4
  cases e0; cases e1; cases e2; cases e3; cases e4
  exact ⟨⟨m0, z1, z2, z3, m4⟩, rfl, b0, b4⟩

theorem open_actsL {base : Nat} {v : Value} {d : DataW H} {p : List MemPlace} (hval : Value.okWide Try.prog W .any base 22 v) (h : DataW.Trod enc Try.prog W 0 (fun _ => true) true 22 v d p) (hlt : ∀ x ∈ p, x.block < W.heap.size) :
    ∃ (A : Option Addr) (n c : Nat) (l : List Act), v = .slice A n c ∧ l.length = n ∧ n ≤ c ∧ c ≤ maxLen ∧ Acts W W.heap.size A l := by
  obtain ⟨a1, len, cap, rfl⟩ := okWide_slice Try.underlying22 hval
  obtain ⟨fuel, hf⟩ := h
  have k35 : Try.prog.cellsOf 35 = 5 := by kernel_rfl
  rcases open_slice Try.underlying22 hf with ⟨hcs, hx⟩ | ⟨a, len', cap', m, n, D, Pl, hcs, _, hl, hm, hmm, hx, hi⟩
  · simp [Value.cells] at hcs
    obtain ⟨rfl, rfl, rfl⟩ := hcs
    exact ⟨none, 0, 0, [], rfl, rfl, Nat.le_refl _, Nat.zero_le _, .inl rfl⟩
  · simp [Value.cells] at hcs
    obtain ⟨rfl, rfl, rfl⟩ := hcs
    simp only [Prod.mk.injEq] at hx
    obtain ⟨rfl, rfl⟩ := hx
    simp only [if_true] at hmm
    subst hmm
    rw [k35] at hi
    have hat : ∀ i, ∃ x : Act, i < len → x.Good ∧ ∀ j u, x.cells[j]? = some u → W.cell? ((a.add (i * 5)).add j) = some u := by
      intro i
      by_cases hlt' : i < len
      · obtain ⟨cs', hc, ht⟩ := hi i (by omega)
        obtain ⟨hcl, hcc⟩ := one_cells5 hc
        obtain ⟨x, rfl, hg⟩ := open_act hcl ht
        exact ⟨x, fun _ => ⟨hg, fun j u hu => by rw [hcc j (by have := (List.getElem?_eq_some_iff.1 hu).1; simpa [Act.cells] using this), hu]⟩⟩
      · exact ⟨⟨0, 0, 0, 0, 0⟩, fun h => absurd h hlt'⟩
    obtain ⟨F, hF⟩ := Classical.axiomOfChoice hat
    refine ⟨some a, len, _, (List.range len).map F, rfl, by simp, hl, hm, ?_⟩
    by_cases h0 : len = 0
    · subst h0; exact .inl rfl
    · obtain ⟨ab, ao, spot⟩ := a
      have hspot : spot = none := by
        have := (hF 0 (by omega)).2 0 _ rfl
        simpa [Addr.add] using World.cell?_spot this
      subst hspot
      refine .inr ⟨ab, ao, rfl, ?_, fun i x hx => ?_⟩
      · refine hlt (.cell ab ao) ?_
        simp only [MemPlace.row, List.mem_append, List.mem_map, List.mem_range]
        exact .inl ⟨0, by rw [k35]; omega, rfl⟩
      · rw [List.getElem?_map] at hx
        have hil : i < len := by
          rcases Nat.lt_or_ge i len with h | h
          · exact h
          · rw [List.getElem?_eq_none (by simpa using h)] at hx; cases hx
        rw [List.getElem?_range hil] at hx
        obtain rfl : F i = x := by simpa using hx
        refine ⟨(hF i hil).1, fun j u hu => ?_⟩
        have := (hF i hil).2 j u hu
        rw [Addr.add_mid, Addr.add_mid] at this
        exact this
set_option maxRecDepth 100000 in
/-- An act that came in by itself. -/
theorem open_one {base : Nat} {v : Value} {d : DataW H} {p : List MemPlace} (hval : Value.okWide Try.prog W .any base 35 v) (h : DataW.Trod enc Try.prog W 0 (fun _ => true) true 35 v d p) : ∃ a : Act, v = .agg a.cells.toArray ∧ a.Good := by
  obtain ⟨cs, rfl, hsz⟩ := okWide_struct Try.underlying35 hval
  obtain ⟨l⟩ := cs
  obtain ⟨fuel, hf⟩ := h
  have k35 : Try.prog.cellsOf 35 = 5 := by kernel_rfl
  obtain ⟨a, e, hg⟩ := open_act (cs := l) (show l.length = 5 by simpa [k35] using hsz) hf
  exact ⟨a, by rw [e], hg⟩
end
end Go.Proofs.Ytnahccdjeilboaa.Prc
