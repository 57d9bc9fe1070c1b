/-
  Arguments: a slice of rows.
-/
import Derived.Test.YtdecllllcoflbaaC
import Derived.Test.YtdecllllcoflbaaF
import Derived.Deep.Slices
import Derived.Deep.Fields
import Derived.ChangeSame
import Derived.Lib.SmallJoins
namespace Go.Proofs.Ytdecllllcoflbaa
open Go.RowKit Go.ChangeShapes Go.WideShapes Go.ChangeAt Go.Deep Go.Joins Intern

theorem own : ownKnob Try.prog.godebug = none := by kernel_rfl
theorem laid : laidOutB Try.prog = true := by kernel_rfl
theorem cells5 : Try.prog.cellsOf 5 = 1 := by kernel_rfl
theorem u16_nat {n : Int} (h : (Lit.int .u16 n).wf = true) : ∃ m : Nat, n = (m : Int) ∧ m < 65536 := by
  have := bounds_u16 h
  exact ⟨n.toNat, by omega, by omega⟩

section
variable {H : Type} {enc : TypeId × Value → H} {W : World}

theorem one_cells2 {w : World} {b base : Nat} {a : Addr} {cs : List Value} (h : w.cells? base (a.add (b * 2)) 2 = some cs) : cs.length = 2 ∧ ∀ j, (hj : j < 2) → w.cell? ((a.add (b * 2)).add j) = cs[j]? := by
  obtain ⟨_, hcl, hat⟩ := World.cells?_some h
  exact ⟨hcl, fun j hj => hat j hj⟩

set_option maxRecDepth 100000 in
/-- One row, out of its cells. -/
theorem open_row {fuel base : Nat} {sp : Nat → Bool} {cs : List Value} {x : DataW H × List MemPlace} (hcl : cs.length = 2) (h : DataW.trod enc Try.prog W base sp true fuel 37 cs = some x) : ∃ a : Rw, cs = a.cells ∧ a.Ok := by
  obtain ⟨xs, n, _, hx, _, hlen, hf⟩ := DataW.trod_struct Try.underlying37 h
  obtain ⟨c0, c1, rfl⟩ : ∃ c0 c1, cs = [c0, c1] := by
    match cs, hcl with
    | [c0, c1], _ => exact ⟨c0, c1, rfl⟩
  obtain ⟨y0, y1, rfl⟩ : ∃ y0 y1, xs = [y0, y1] := by
    match xs, hlen with
    | [y0, y1], _ => exact ⟨y0, y1, rfl⟩
  have k24 : Try.prog.cellsOf 24 = 1 := by kernel_rfl
  have k3 : Try.prog.cellsOf 3 = 1 := by kernel_rfl
  have h0 : DataW.trod enc Try.prog W base sp true n 24 [c0] = some y0 := by simpa [k24] using hf 0 _ rfl
  have h1 : DataW.trod enc Try.prog W base sp true n 3 [c1] = some y1 := by simpa [k3] using hf 1 _ rfl
  obtain ⟨z0, e0, _, w0⟩ := DataW.trod_int Try.underlying24 h0
  obtain ⟨z1, e1, _, w1⟩ := DataW.trod_int Try.underlying3 h1
  obtain ⟨m0, rfl, b0⟩ := u16_nat w0
  have b1 := bounds_i64 w1
  cases e0; cases e1
  exact ⟨⟨m0, z1⟩, rfl, b0, by show -9223372036854775808 ≤ z1; omega, by show z1 ≤ 9223372036854775807; omega⟩

set_option maxRecDepth 100000 in
theorem open_rowsL {base : Nat} {v : Value} {d : DataW H} {p : List MemPlace} (hval : Value.okWide Try.prog W .any base 22 v) (h : DataW.Trod enc Try.prog W 0 (fun _ => true) true 22 v d p) (hlt : ∀ x ∈ p, x.block < W.heap.size) :
    ∃ (A : Option Addr) (n c : Nat) (l : List Rw), v = .slice A n c ∧ l.length = n ∧ n ≤ c ∧ c ≤ maxLen ∧ Rd W W.heap.size A (rowsV l) ∧ Oks l := by
  obtain ⟨a1, len, cap, rfl⟩ := okWide_slice Try.underlying22 hval
  obtain ⟨fuel, hf⟩ := h
  have k37 : Try.prog.cellsOf 37 = 2 := by kernel_rfl
  rcases open_slice Try.underlying22 hf with ⟨hcs, hx⟩ | ⟨a, len', cap', m, n, D, Pl, hcs, _, hl, hm, hmm, hx, hi⟩
  · simp [Value.cells] at hcs
    obtain ⟨rfl, rfl, rfl⟩ := hcs
    exact ⟨none, 0, 0, [], rfl, rfl, Nat.le_refl _, Nat.zero_le _, .inl rfl, fun r hr => by cases hr⟩
  · simp [Value.cells] at hcs
    obtain ⟨rfl, rfl, rfl⟩ := hcs
    simp only [Prod.mk.injEq] at hx
    obtain ⟨rfl, rfl⟩ := hx
    simp only [if_true] at hmm
    subst hmm
    rw [k37] at hi
    have hat : ∀ i, ∃ x : Rw, i < len → x.Ok ∧ ∀ j u, x.cells[j]? = some u → W.cell? ((a.add (i * 2)).add j) = some u := by
      intro i
      by_cases hlt' : i < len
      · obtain ⟨cs', hc, ht⟩ := hi i (by omega)
        obtain ⟨hcl, hcc⟩ := one_cells2 hc
        obtain ⟨x, rfl, hg⟩ := open_row hcl ht
        exact ⟨x, fun _ => ⟨hg, fun j u hu => by rw [hcc j (by have := (List.getElem?_eq_some_iff.1 hu).1; simpa [Rw.cells] using this), hu]⟩⟩
      · exact ⟨.z, fun h => absurd h hlt'⟩
    obtain ⟨F, hF⟩ := Classical.axiomOfChoice hat
    have hget : ∀ i, i < len → ((List.range len).map F)[i]? = some (F i) := fun i hi => by rw [List.getElem?_map, List.getElem?_range hi]; rfl
    refine ⟨some a, len, _, (List.range len).map F, rfl, by simp, hl, hm, ?_, fun r hr => ?_⟩
    · by_cases h0 : len = 0
      · subst h0; exact .inl rfl
      · obtain ⟨ab, ao, spot⟩ := a
        have hspot : spot = none := by
          have := (hF 0 (by omega)).2 0 _ rfl
          simpa [Addr.add] using World.cell?_spot this
        subst hspot
        refine .inr ⟨ab, ao, rfl, ?_, fun j u hu => ?_⟩
        · refine hlt (.cell ab ao) ?_
          simp only [MemPlace.row, List.mem_append, List.mem_map, List.mem_range]
          exact .inl ⟨0, by rw [k37]; omega, rfl⟩
        · have hj : j < len * 2 := by
            have := (List.getElem?_eq_some_iff.1 hu).1
            rw [length_rowsV] at this
            simpa using this
          have hil : j / 2 < len := by omega
          obtain ⟨g0, g1⟩ := rowsV_get _ _ _ (hget _ hil)
          have hc := (hF _ hil).2
          rcases Nat.mod_two_eq_zero_or_one j with e | e
          · have e2 : j = j / 2 * 2 := by omega
            have := hc 0 _ rfl
            rw [Addr.add_lit, Addr.add_lit, Nat.add_zero] at this
            rw [← e2] at g0 this
            rw [hu] at g0
            rw [g0]
            exact this
          · have e2 : j = j / 2 * 2 + 1 := by omega
            have := hc 1 _ rfl
            rw [Addr.add_lit, Addr.add_lit, Nat.add_assoc] at this
            rw [← e2] at g1 this
            rw [hu] at g1
            rw [g1]
            exact this
    · obtain ⟨i, hi', rfl⟩ := List.mem_map.1 hr
      exact (hF i (List.mem_range.1 hi')).1
end
end Go.Proofs.Ytdecllllcoflbaa
