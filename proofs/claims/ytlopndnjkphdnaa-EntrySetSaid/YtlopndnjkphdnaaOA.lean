/-
  Arguments: a slice of acts.
-/
import Derived.Test.YtlopndnjkphdnaaO
namespace Go.Proofs.Ytlopndnjkphdnaa
open Go.RowKit Go.ChangeShapes Go.WideShapes Go.ChangeAt Go.Deep Go.Joins Entry

/-- What is done. -/
structure Ac where
  gone : Bool
  s : ByteArray
  i : Int
def Ac.cells (a : Ac) : List Value := [.bool a.gone, .string a.s, .int .i64 a.i]
structure Ac.Good (a : Ac) : Prop where
  s : a.s.size ≤ maxLen
  lo : -9223372036854775808 ≤ a.i
  hi : a.i ≤ 9223372036854775807
/-- A slice of them. -/
def Acts (w : World) (B : Nat) (A : Option Addr) (l : List Ac) : Prop :=
  l = [] ∨ ∃ b o, A = some ⟨b, o, none⟩ ∧ b < B ∧ ∀ (i : Nat) a, l[i]? = some a → a.Good ∧ w.cell? ⟨b, o + i * 3, none⟩ = some (.bool a.gone) ∧ w.cell? ⟨b, o + i * 3 + 1, none⟩ = some (.string a.s) ∧ w.cell? ⟨b, o + i * 3 + 2, none⟩ = some (.int .i64 a.i)
theorem Acts.below {w w' : World} {B : Nat} {A : Option Addr} {l : List Ac} (h : Acts w B A l) (hb : Below B w w') : Acts w' B A l := by
  rcases h with h | ⟨b, o, h1, h2, h3⟩
  · exact .inl h
  · exact .inr ⟨b, o, h1, h2, fun i a hi => ⟨(h3 i a hi).1, (hb.cell h2).trans (h3 i a hi).2.1, (hb.cell h2).trans (h3 i a hi).2.2.1, (hb.cell h2).trans (h3 i a hi).2.2.2⟩⟩
theorem Acts.take {w : World} {B : Nat} {A : Option Addr} {l : List Ac} (h : Acts w B A l) (n : Nat) : Acts w B A (l.take n) := by
  rcases h with h | ⟨b, o, h1, h2, h3⟩
  · exact .inl (by rw [h]; simp)
  · exact .inr ⟨b, o, h1, h2, fun i a hi => h3 i a (by
      rw [List.getElem?_take] at hi
      split at hi
      · exact hi
      · cases hi)⟩

theorem one_cells3 {w : World} {b base : Nat} {a : Addr} {cs : List Value} (h : w.cells? base (a.add (b * 3)) 3 = some cs) : cs.length = 3 ∧ ∀ j, (hj : j < 3) → w.cell? ((a.add (b * 3)).add j) = cs[j]? := by
  obtain ⟨_, hcl, hat⟩ := World.cells?_some h
  exact ⟨hcl, fun j hj => hat j hj⟩

section
variable {H : Type} {enc : TypeId × Value → H} {W : World}
set_option maxRecDepth 100000 in
/-- One act, out of its cells. -/
theorem open_act {fuel base : Nat} {sp : Nat → Bool} {cs : List Value} {x : DataW H × List MemPlace} (hcl : cs.length = 3) (h : DataW.trod enc Try.prog W base sp true fuel 48 cs = some x) : ∃ a : Ac, cs = a.cells ∧ a.Good := by
  obtain ⟨xs, n, _, hx, _, hlen, hf⟩ := DataW.trod_struct Try.underlying48 h
  obtain ⟨c0, c1, c2, rfl⟩ : ∃ c0 c1 c2, cs = [c0, c1, c2] := by
    match cs, hcl with
    | [c0, c1, c2], _ => exact ⟨c0, c1, c2, rfl⟩
  obtain ⟨y0, y1, rfl⟩ : ∃ y0 y1, xs = [y0, y1] := by
    match xs, hlen with
    | [y0, y1], _ => exact ⟨y0, y1, rfl⟩
  have k4 : Try.prog.cellsOf 4 = 1 := by kernel_rfl
  have h0 : DataW.trod enc Try.prog W base sp true n 4 [c0] = some y0 := by simpa [k4] using hf 0 _ rfl
  have h1 : DataW.trod enc Try.prog W base sp true n 23 [c1, c2] = some y1 := by simpa [cells23] using hf 1 _ rfl
  obtain ⟨z0, e0, _⟩ := DataW.trod_bool Try.underlying4 h0
  obtain ⟨s, i, e1, hs, hi0, hi1⟩ := open_ent_cells h1
  cases e0; cases e1
  exact ⟨⟨z0, s, i⟩, rfl, hs, hi0, hi1⟩

set_option maxRecDepth 100000 in
theorem open_actsL {base : Nat} {v : Value} {d : DataW H} {p : List MemPlace} (hval : Value.okWide Try.prog W .any base 44 v) (h : DataW.Trod enc Try.prog W 0 (fun _ => true) true 44 v d p) (hlt : ∀ x ∈ p, x.block < W.heap.size) :
    ∃ (A : Option Addr) (n c : Nat) (l : List Ac), v = .slice A n c ∧ l.length = n ∧ n ≤ c ∧ c ≤ maxLen ∧ Acts W W.heap.size A l := by
  obtain ⟨a1, len, cap, rfl⟩ := okWide_slice Try.underlying44 hval
  obtain ⟨fuel, hf⟩ := h
  have k49 : Try.prog.cellsOf 48 = 3 := by kernel_rfl
  rcases open_slice Try.underlying44 hf with ⟨hcs, hx⟩ | ⟨a, len', cap', m, n, D, Pl, hcs, _, hl, hm, hmm, hx, hi⟩
  · simp [Value.cells] at hcs
    obtain ⟨rfl, rfl, rfl⟩ := hcs
    exact ⟨none, 0, 0, [], rfl, rfl, Nat.le_refl _, Nat.zero_le _, .inl rfl⟩
  · simp [Value.cells] at hcs
    obtain ⟨rfl, rfl, rfl⟩ := hcs
    simp only [Prod.mk.injEq] at hx
    obtain ⟨rfl, rfl⟩ := hx
    simp only [if_true] at hmm
    subst hmm
    rw [k49] at hi
    have hat : ∀ i, ∃ x : Ac, i < len → x.Good ∧ ∀ j u, x.cells[j]? = some u → W.cell? ((a.add (i * 3)).add j) = some u := by
      intro i
      by_cases hlt' : i < len
      · obtain ⟨cs', hc, ht⟩ := hi i (by omega)
        obtain ⟨hcl, hcc⟩ := one_cells3 hc
        obtain ⟨x, rfl, hg⟩ := open_act hcl ht
        exact ⟨x, fun _ => ⟨hg, fun j u hu => by rw [hcc j (by have := (List.getElem?_eq_some_iff.1 hu).1; simpa [Ac.cells] using this), hu]⟩⟩
      · exact ⟨⟨false, .empty, 0⟩, fun h => absurd h hlt'⟩
    obtain ⟨F, hF⟩ := Classical.axiomOfChoice hat
    refine ⟨some a, len, _, (List.range len).map F, rfl, by simp, hl, hm, ?_⟩
    by_cases h0 : len = 0
    · subst h0; exact .inl rfl
    · obtain ⟨ab, ao, spot⟩ := a
      have hspot : spot = none := by
        have := (hF 0 (by omega)).2 0 _ rfl
        simpa [Addr.add] using World.cell?_spot this
      subst hspot
      refine .inr ⟨ab, ao, rfl, ?_, fun i x hx => ?_⟩
      · refine hlt (.cell ab ao) ?_
        simp only [MemPlace.row, List.mem_append, List.mem_map, List.mem_range]
        exact .inl ⟨0, by rw [k49]; omega, rfl⟩
      · rw [List.getElem?_map] at hx
        have hil : i < len := by
          rcases Nat.lt_or_ge i len with h | h
          · exact h
          · rw [List.getElem?_eq_none (by simpa using h)] at hx; cases hx
        rw [List.getElem?_range hil] at hx
        obtain rfl : F i = x := by simpa using hx
        obtain ⟨h1, h2⟩ := hF i hil
        have c0 := h2 0 _ rfl
        have c1 := h2 1 _ rfl
        have c2 := h2 2 _ rfl
        rw [Addr.add_lit, Addr.add_lit] at c0 c1 c2
        exact ⟨h1, c0, c1, c2⟩
end
end Go.Proofs.Ytlopndnjkphdnaa
