/-
  Arguments: a slice of acts.
-/
import Derived.Test.YtdecllllcoflbaaO
namespace Go.Proofs.Ytdecllllcoflbaa
open Go.RowKit Go.ChangeShapes Go.WideShapes Go.ChangeAt Go.Deep Go.Joins Intern

/-- What is done. -/
structure Ac where
  gone : Bool
  lab : Nat
def Ac.cells (a : Ac) : List Value := [.bool a.gone, .int .u16 (a.lab : Int)]
/-- A slice of them. -/
def Acts (w : World) (B : Nat) (A : Option Addr) (l : List Ac) : Prop :=
  l = [] ∨ ∃ b o, A = some ⟨b, o, none⟩ ∧ b < B ∧ ∀ (i : Nat) a, l[i]? = some a → a.lab < 65536 ∧ w.cell? ⟨b, o + i * 2, none⟩ = some (.bool a.gone) ∧ w.cell? ⟨b, o + i * 2 + 1, none⟩ = some (.int .u16 (a.lab : Int))
theorem Acts.at {w : World} {B : Nat} {A : Option Addr} {l : List Ac} (h : Acts w B A l) {i : Nat} {a : Ac} (hi : l[i]? = some a) : ∃ b o, A = some ⟨b, o, none⟩ ∧ b < B ∧ a.lab < 65536 ∧ w.cell? ⟨b, o + i * 2, none⟩ = some (.bool a.gone) ∧ w.cell? ⟨b, o + i * 2 + 1, none⟩ = some (.int .u16 (a.lab : Int)) := by
  rcases h with rfl | ⟨b, o, h1, h2, h3⟩
  · simp at hi
  · exact ⟨b, o, h1, h2, h3 i a hi⟩
theorem Acts.below {w w' : World} {B : Nat} {A : Option Addr} {l : List Ac} (h : Acts w B A l) (hb : Below B w w') : Acts w' B A l := by
  rcases h with h | ⟨b, o, h1, h2, h3⟩
  · exact .inl h
  · exact .inr ⟨b, o, h1, h2, fun i a hi => ⟨(h3 i a hi).1, (hb.cell h2).trans (h3 i a hi).2.1, (hb.cell h2).trans (h3 i a hi).2.2⟩⟩

section
variable {H : Type} {enc : TypeId × Value → H} {W : World}
set_option maxRecDepth 100000 in
/-- One act, out of its cells. -/
theorem open_act {fuel base : Nat} {sp : Nat → Bool} {cs : List Value} {x : DataW H × List MemPlace} (hcl : cs.length = 2) (h : DataW.trod enc Try.prog W base sp true fuel 49 cs = some x) : ∃ a : Ac, cs = a.cells ∧ a.lab < 65536 := by
  obtain ⟨xs, n, _, hx, _, hlen, hf⟩ := DataW.trod_struct Try.underlying49 h
  obtain ⟨c0, c1, rfl⟩ : ∃ c0 c1, cs = [c0, c1] := by
    match cs, hcl with
    | [c0, c1], _ => exact ⟨c0, c1, rfl⟩
  obtain ⟨y0, y1, rfl⟩ : ∃ y0 y1, xs = [y0, y1] := by
    match xs, hlen with
    | [y0, y1], _ => exact ⟨y0, y1, rfl⟩
  have k24 : Try.prog.cellsOf 24 = 1 := by kernel_rfl
  have k4 : Try.prog.cellsOf 4 = 1 := by kernel_rfl
  have h0 : DataW.trod enc Try.prog W base sp true n 4 [c0] = some y0 := by simpa [k4] using hf 0 _ rfl
  have h1 : DataW.trod enc Try.prog W base sp true n 24 [c1] = some y1 := by simpa [k24] using hf 1 _ rfl
  obtain ⟨z0, e0, _⟩ := DataW.trod_bool Try.underlying4 h0
  obtain ⟨z1, e1, _, w1⟩ := DataW.trod_int Try.underlying24 h1
  obtain ⟨m1, rfl, b1⟩ := u16_nat w1
  cases e0; cases e1
  exact ⟨⟨z0, m1⟩, rfl, b1⟩

set_option maxRecDepth 100000 in
theorem open_actsL {base : Nat} {v : Value} {d : DataW H} {p : List MemPlace} (hval : Value.okWide Try.prog W .any base 45 v) (h : DataW.Trod enc Try.prog W 0 (fun _ => true) true 45 v d p) (hlt : ∀ x ∈ p, x.block < W.heap.size) :
    ∃ (A : Option Addr) (n c : Nat) (l : List Ac), v = .slice A n c ∧ l.length = n ∧ n ≤ c ∧ c ≤ maxLen ∧ Acts W W.heap.size A l := by
  obtain ⟨a1, len, cap, rfl⟩ := okWide_slice Try.underlying45 hval
  obtain ⟨fuel, hf⟩ := h
  have k49 : Try.prog.cellsOf 49 = 2 := by kernel_rfl
  rcases open_slice Try.underlying45 hf with ⟨hcs, hx⟩ | ⟨a, len', cap', m, n, D, Pl, hcs, _, hl, hm, hmm, hx, hi⟩
  · simp [Value.cells] at hcs
    obtain ⟨rfl, rfl, rfl⟩ := hcs
    exact ⟨none, 0, 0, [], rfl, rfl, Nat.le_refl _, Nat.zero_le _, .inl rfl⟩
  · simp [Value.cells] at hcs
    obtain ⟨rfl, rfl, rfl⟩ := hcs
    simp only [Prod.mk.injEq] at hx
    obtain ⟨rfl, rfl⟩ := hx
    simp only [if_true] at hmm
    subst hmm
    rw [k49] at hi
    have hat : ∀ i, ∃ x : Ac, i < len → x.lab < 65536 ∧ ∀ j u, x.cells[j]? = some u → W.cell? ((a.add (i * 2)).add j) = some u := by
      intro i
      by_cases hlt' : i < len
      · obtain ⟨cs', hc, ht⟩ := hi i (by omega)
        obtain ⟨hcl, hcc⟩ := one_cells2 hc
        obtain ⟨x, rfl, hg⟩ := open_act hcl ht
        exact ⟨x, fun _ => ⟨hg, fun j u hu => by rw [hcc j (by have := (List.getElem?_eq_some_iff.1 hu).1; simpa [Ac.cells] using this), hu]⟩⟩
      · exact ⟨⟨false, 0⟩, fun h => absurd h hlt'⟩
    obtain ⟨F, hF⟩ := Classical.axiomOfChoice hat
    refine ⟨some a, len, _, (List.range len).map F, rfl, by simp, hl, hm, ?_⟩
    by_cases h0 : len = 0
    · subst h0; exact .inl rfl
    · obtain ⟨ab, ao, spot⟩ := a
      have hspot : spot = none := by
        have := (hF 0 (by omega)).2 0 _ rfl
        simpa [Addr.add] using World.cell?_spot this
      subst hspot
      refine .inr ⟨ab, ao, rfl, ?_, fun i x hx => ?_⟩
      · refine hlt (.cell ab ao) ?_
        simp only [MemPlace.row, List.mem_append, List.mem_map, List.mem_range]
        exact .inl ⟨0, by rw [k49]; omega, rfl⟩
      · rw [List.getElem?_map] at hx
        have hil : i < len := by
          rcases Nat.lt_or_ge i len with h | h
          · exact h
          · rw [List.getElem?_eq_none (by simpa using h)] at hx; cases hx
        rw [List.getElem?_range hil] at hx
        obtain rfl : F i = x := by simpa using hx
        obtain ⟨h1, h2⟩ := hF i hil
        have c0 := h2 0 _ rfl
        have c1 := h2 1 _ rfl
        rw [Addr.add_lit, Addr.add_lit] at c0 c1
        exact ⟨h1, c0, c1⟩
end
end Go.Proofs.Ytdecllllcoflbaa
