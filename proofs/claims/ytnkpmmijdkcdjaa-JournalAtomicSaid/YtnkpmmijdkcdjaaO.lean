/-
  Arguments: a slice of acts, a patch.
-/
import Derived.Test.YtnkpmmijdkcdjaaC
import Derived.Test.YtnkpmmijdkcdjaaF
import Derived.Deep.Slices
import Derived.Deep.Fields
import Derived.ChangeSame
import Derived.Lib.SmallJoins
namespace Go.Proofs.Ytnkpmmijdkcdjaa
open Go.RowKit Go.ChangeShapes Go.WideShapes Go.ChangeAt Go.Deep Go.Joins

theorem own : ownKnob Try.prog.godebug = none := by kernel_rfl
theorem laid : laidOutB Try.prog = true := by kernel_rfl

theorem u8_nat {n : Int} (h : (Lit.int .u8 n).wf = true) : ∃ m : Nat, n = (m : Int) ∧ m < 256 := by
  have := bounds_u8 h
  exact ⟨n.toNat, by omega, by omega⟩
theorem u64_nat {n : Int} (h : (Lit.int .u64 n).wf = true) : ∃ m : Nat, n = (m : Int) ∧ m < 18446744073709551616 := by
  have := bounds_u64 h
  exact ⟨n.toNat, by omega, by omega⟩
theorem i64_of {n : Int} (h : (Lit.int .i64 n).wf = true) : I64 n := by
  have := bounds_i64 h
  exact ⟨by omega, by omega⟩

section
variable {H : Type} {enc : TypeId × Value → H} {W : World}

set_option maxRecDepth 100000 in
/-- A patch that came in. -/
theorem open_patch {base : Nat} {v : Value} {d : DataW H} {p : List MemPlace} (hval : Value.okWide Try.prog W .any base 49 v) (h : DataW.Trod enc Try.prog W 0 (fun _ => true) true 49 v d p) : ∃ (s : Int) (v1 v2 : Value), v = .agg #[.int .i64 s, v1, v2] := by
  obtain ⟨v0, v1, v2, y0, y1, y2, n, rfl, rfl, rfl, h0, h1, h2⟩ := open_agg3 Try.underlying49 (by kernel_rfl) (by kernel_rfl) hval h
  obtain ⟨s, hs, _, _⟩ := DataW.trod_int Try.underlying3 h0
  cases hs
  exact ⟨s, v1, v2, rfl⟩

theorem one_cellsK {k : Nat} {w : World} {b base : Nat} {a : Addr} {cs : List Value} (h : w.cells? base (a.add (b * k)) k = some cs) : cs.length = k ∧ ∀ j, (hj : j < k) → w.cell? ((a.add (b * k)).add j) = cs[j]? := by
  obtain ⟨_, hcl, hat⟩ := World.cells?_some h
  exact ⟨hcl, fun j hj => hat j hj⟩

set_option maxRecDepth 100000 in
/-- One set, out of its cells. -/
theorem open_set {fuel base : Nat} {sp : Nat → Bool} {cs : List Value} {x : DataW H × List MemPlace} (hcl : cs.length = 2) (h : DataW.trod enc Try.prog W base sp true fuel 43 cs = some x) : ∃ s : Int × Nat, cs = [.int .i64 s.1, .int .u8 (s.2 : Int)] ∧ I64 s.1 ∧ s.2 < 256 := by
  obtain ⟨xs, n, _, hx, _, hlen, hf⟩ := DataW.trod_struct Try.underlying43 h
  obtain ⟨c0, c1, rfl⟩ : ∃ c0 c1, cs = [c0, c1] := by
    match cs, hcl with
    | [c0, c1], _ => exact ⟨c0, c1, rfl⟩
  obtain ⟨y0, y1, rfl⟩ : ∃ y0 y1, xs = [y0, y1] := by
    match xs, hlen with
    | [y0, y1], _ => exact ⟨y0, y1, rfl⟩
  have k5 : Try.prog.cellsOf 5 = 1 := by kernel_rfl
  have k3 : Try.prog.cellsOf 3 = 1 := by kernel_rfl
  have h0 : DataW.trod enc Try.prog W base sp true n 3 [c0] = some y0 := by simpa [k3] using hf 0 _ rfl
  have h1 : DataW.trod enc Try.prog W base sp true n 5 [c1] = some y1 := by simpa [k5] using hf 1 _ rfl
  obtain ⟨z0, e0, _, w0⟩ := DataW.trod_int Try.underlying3 h0
  obtain ⟨z1, e1, _, w1⟩ := DataW.trod_int Try.underlying5 h1
  obtain ⟨m1, rfl, b1⟩ := u8_nat w1
  cases e0; cases e1
  exact ⟨(z0, m1), rfl, i64_of w0, b1⟩

set_option maxRecDepth 100000 in
/-- Sets that came in. -/
theorem open_sets {fuel base : Nat} {sp : Nat → Bool} {c : Value} {y : DataW H × List MemPlace} (h : DataW.trod enc Try.prog W base sp true fuel 38 [c] = some y) :
    ∃ (A : Option Addr) (n cp : Nat) (l : List (Int × Nat)), c = .slice A n cp ∧ l.length = n ∧ n ≤ cp ∧ Sets W W.heap.size A l ∧ ∀ s ∈ l, I64 s.1 ∧ s.2 < 256 := by
  have k43 : Try.prog.cellsOf 43 = 2 := by kernel_rfl
  rcases open_slice Try.underlying38 h with ⟨hcs, hx⟩ | ⟨a, len', cap', m, n, D, Pl, hcs, _, hl, hm, hmm, hx, hi⟩
  · obtain rfl : c = .slice none 0 0 := by simpa using hcs
    exact ⟨none, 0, 0, [], rfl, rfl, Nat.le_refl _, fun i s hs => by simp at hs, fun s hs => by cases hs⟩
  · obtain rfl : c = .slice (some a) len' cap' := by simpa using hcs
    rw [k43] at hi
    have hle : len' ≤ m := by rw [hmm]; split <;> omega
    have hat : ∀ i, ∃ s : Int × Nat, i < len' → W.cell? ((a.add (i * 2)).add 0) = some (.int .i64 s.1) ∧ W.cell? ((a.add (i * 2)).add 1) = some (.int .u8 (s.2 : Int)) ∧ I64 s.1 ∧ s.2 < 256 := by
      intro i
      by_cases hlt' : i < len'
      · obtain ⟨cs', hc, ht⟩ := hi i (by omega)
        obtain ⟨hcl, hcc⟩ := one_cellsK hc
        obtain ⟨s, rfl, h1, h2⟩ := open_set hcl ht
        exact ⟨s, fun _ => ⟨hcc 0 (by omega), hcc 1 (by omega), h1, h2⟩⟩
      · exact ⟨(0, 0), fun h => absurd h hlt'⟩
    obtain ⟨F, hF⟩ := Classical.axiomOfChoice hat
    refine ⟨some a, len', cap', (List.range len').map F, rfl, by simp, hl, fun i s hs => ?_, fun s hs => ?_⟩
    · rw [List.getElem?_map] at hs
      have hil : i < len' := by
        rcases Nat.lt_or_ge i len' with h | h
        · exact h
        · rw [List.getElem?_eq_none (by simpa using h)] at hs; cases hs
      rw [List.getElem?_range hil] at hs
      obtain rfl : F i = s := by simpa using hs
      obtain ⟨e1, e2, _⟩ := hF i hil
      obtain ⟨ab, ao, spot⟩ := a
      have hspot : spot = none := by
        have := (hF 0 (by omega)).1
        simpa [Addr.add] using World.cell?_spot this
      subst hspot
      rw [Addr.add_mid, Addr.add_mid] at e1 e2
      exact ⟨ab, ao, rfl, World.block_lt_of_cell? W _ e1, e1, e2⟩
    · obtain ⟨i, hi', rfl⟩ := List.mem_map.1 hs
      exact (hF i (List.mem_range.1 hi')).2.2

set_option maxRecDepth 100000 in
/-- One act, out of its cells. -/
theorem open_act {fuel base : Nat} {sp : Nat → Bool} {cs : List Value} {x : DataW H × List MemPlace} (hcl : cs.length = 6) (h : DataW.trod enc Try.prog W base sp true fuel 41 cs = some x) : ∃ a : Act, cs = a.cells ∧ a.Good ∧ Sets W W.heap.size a.lA a.sets := by
  obtain ⟨xs, n, _, hx, _, hlen, hf⟩ := DataW.trod_struct Try.underlying41 h
  obtain ⟨c0, c1, c2, c3, c4, c5, rfl⟩ : ∃ c0 c1 c2 c3 c4 c5, cs = [c0, c1, c2, c3, c4, c5] := by
    match cs, hcl with
    | [c0, c1, c2, c3, c4, c5], _ => exact ⟨c0, c1, c2, c3, c4, c5, rfl⟩
  obtain ⟨y0, y1, y2, y3, y4, y5, rfl⟩ : ∃ y0 y1 y2 y3 y4 y5, xs = [y0, y1, y2, y3, y4, y5] := by
    match xs, hlen with
    | [y0, y1, y2, y3, y4, y5], _ => exact ⟨y0, y1, y2, y3, y4, y5, rfl⟩
  have k5 : Try.prog.cellsOf 5 = 1 := by kernel_rfl
  have k3 : Try.prog.cellsOf 3 = 1 := by kernel_rfl
  have k38 : Try.prog.cellsOf 38 = 1 := by kernel_rfl
  have k39 : Try.prog.cellsOf 39 = 1 := by kernel_rfl
  have k37 : Try.prog.cellsOf 37 = 1 := by kernel_rfl
  have h0 : DataW.trod enc Try.prog W base sp true n 5 [c0] = some y0 := by simpa [k5] using hf 0 _ rfl
  have h1 : DataW.trod enc Try.prog W base sp true n 38 [c1] = some y1 := by simpa [k38] using hf 1 _ rfl
  have h2 : DataW.trod enc Try.prog W base sp true n 3 [c2] = some y2 := by simpa [k3] using hf 2 _ rfl
  have h3 : DataW.trod enc Try.prog W base sp true n 5 [c3] = some y3 := by simpa [k5] using hf 3 _ rfl
  have h4 : DataW.trod enc Try.prog W base sp true n 39 [c4] = some y4 := by simpa [k39] using hf 4 _ rfl
  have h5 : DataW.trod enc Try.prog W base sp true n 37 [c5] = some y5 := by simpa [k37] using hf 5 _ rfl
  obtain ⟨z0, e0, _, w0⟩ := DataW.trod_int Try.underlying5 h0
  obtain ⟨z2, e2, _, w2⟩ := DataW.trod_int Try.underlying3 h2
  obtain ⟨z3, e3, _, w3⟩ := DataW.trod_int Try.underlying5 h3
  obtain ⟨z5, e5, _, w5⟩ := DataW.trod_int Try.underlying37 h5
  obtain ⟨m0, rfl, b0⟩ := u8_nat w0
  obtain ⟨m3, rfl, b3⟩ := u8_nat w3
  obtain ⟨m5, rfl, b5⟩ := u64_nat w5
  obtain ⟨lA, ln, lc, sets, e1, g1, g2, g3, g4⟩ := open_sets h1
  obtain ⟨A, bn, bc, e4, hb⟩ : ∃ A bn bc, c4 = .slice A bn bc ∧ bn ≤ bc := by
    rcases DataW.trod_slice Try.underlying39 h4 with ⟨hs, _⟩ | ⟨a, len, cap, elems, rest, _, _, hs, _, _, hl, _⟩
    · exact ⟨none, 0, 0, by simpa using hs, Nat.le_refl _⟩
    · exact ⟨some a, len, cap, by simpa using hs, hl⟩
  cases e0; cases e2; cases e3; cases e5; subst e1; subst e4
  exact ⟨⟨m0, lA, ln, lc, z2, m3, A, bn, bc, m5, sets⟩, rfl, ⟨b0, g1, g2, hb, i64_of w2, b5, g4⟩, g3⟩

set_option maxRecDepth 100000 in
theorem open_actsL {base : Nat} {v : Value} {d : DataW H} {p : List MemPlace} (hval : Value.okWide Try.prog W .any base 34 v) (h : DataW.Trod enc Try.prog W 0 (fun _ => true) true 34 v d p) :
    ∃ (A : Option Addr) (n c : Nat) (l : List Act), v = .slice A n c ∧ l.length = n ∧ n ≤ c ∧ c ≤ maxLen ∧ Acts W W.heap.size A l := by
  obtain ⟨a1, len, cap, rfl⟩ := okWide_slice Try.underlying34 hval
  obtain ⟨fuel, hf⟩ := h
  have k41 : Try.prog.cellsOf 41 = 6 := by kernel_rfl
  rcases open_slice Try.underlying34 hf with ⟨hcs, hx⟩ | ⟨a, len', cap', m, n, D, Pl, hcs, _, hl, hm, hmm, hx, hi⟩
  · simp [Value.cells] at hcs
    obtain ⟨rfl, rfl, rfl⟩ := hcs
    exact ⟨none, 0, 0, [], rfl, rfl, Nat.le_refl _, Nat.zero_le _, .inl rfl⟩
  · simp [Value.cells] at hcs
    obtain ⟨rfl, rfl, rfl⟩ := hcs
    simp only [if_true] at hmm
    subst hmm
    rw [k41] at hi
    have hat : ∀ i, ∃ x : Act, i < len → x.Good ∧ (∀ j u, x.cells[j]? = some u → W.cell? ((a.add (i * 6)).add j) = some u) ∧ Sets W W.heap.size x.lA x.sets := by
      intro i
      by_cases hlt' : i < len
      · obtain ⟨cs', hc, ht⟩ := hi i (by omega)
        obtain ⟨hcl, hcc⟩ := one_cellsK hc
        obtain ⟨x, rfl, hg, hs⟩ := open_act hcl ht
        exact ⟨x, fun _ => ⟨hg, fun j u hu => by rw [hcc j (by have := (List.getElem?_eq_some_iff.1 hu).1; simpa [Act.cells] using this), hu], hs⟩⟩
      · exact ⟨⟨0, none, 0, 0, 0, 0, none, 0, 0, 0, []⟩, fun h => absurd h hlt'⟩
    obtain ⟨F, hF⟩ := Classical.axiomOfChoice hat
    refine ⟨some a, len, _, (List.range len).map F, rfl, by simp, hl, hm, ?_⟩
    by_cases h0 : len = 0
    · subst h0; exact .inl rfl
    · obtain ⟨ab, ao, spot⟩ := a
      have hspot : spot = none := by
        have := (hF 0 (by omega)).2.1 0 _ rfl
        simpa [Addr.add] using World.cell?_spot this
      subst hspot
      refine .inr ⟨ab, ao, rfl, ?_, fun i x hx => ?_⟩
      · have := (hF 0 (by omega)).2.1 0 _ rfl
        rw [Addr.add_mid, Addr.add_mid] at this
        exact World.block_lt_of_cell? W _ this
      · rw [List.getElem?_map] at hx
        have hil : i < len := by
          rcases Nat.lt_or_ge i len with h | h
          · exact h
          · rw [List.getElem?_eq_none (by simpa using h)] at hx; cases hx
        rw [List.getElem?_range hil] at hx
        obtain rfl : F i = x := by simpa using hx
        refine ⟨(hF i hil).1, fun j u hu => ?_, (hF i hil).2.2⟩
        have := (hF i hil).2.1 j u hu
        rw [Addr.add_mid, Addr.add_mid] at this
        exact this
end
end Go.Proofs.Ytnkpmmijdkcdjaa
