/-
  Rows of strings, as lists of byte lists: how they lie, what append makes of them, and a slice of strings that came in.
-/
import Derived.Test.YthpppkkagepomaaC
import Derived.SliceStrings
namespace Go.Proofs.Ythpppkkagepomaa.Path
open Go.RowKit Go.ChangeShapes Go.WideShapes Go.ChangeAt

def strV (n : List UInt8) : Value := .string ⟨n.toArray⟩
def strsV (l : List (List UInt8)) : List Value := l.map strV
theorem length_strsV (l : List (List UInt8)) : (strsV l).length = l.length := by simp [strsV]
theorem strsV_append (l m : List (List UInt8)) : strsV (l ++ m) = strsV l ++ strsV m := by simp [strsV]
theorem strsV_take (l : List (List UInt8)) (k : Nat) : strsV (l.take k) = (strsV l).take k := by simp [strsV, List.map_take]
theorem strsV_drop (l : List (List UInt8)) (k : Nat) : strsV (l.drop k) = (strsV l).drop k := by simp [strsV, List.map_drop]
theorem strsV_one (l : List (List UInt8)) : ∀ u ∈ strsV l, u.oneCell' = true := by
  intro u hu
  simp only [strsV, List.mem_map] at hu
  obtain ⟨n, _, rfl⟩ := hu
  rfl
theorem strsV_get {l : List (List UInt8)} {i : Nat} {n : List UInt8} (h : l[i]? = some n) : (strsV l)[i]? = some (strV n) := by simp [strsV, h]
theorem strV_of (s : ByteArray) : strV s.data.toList = .string s := by
  cases s
  simp [strV]
theorem rd_str {w : World} {B b o : Nat} {l : List (List UInt8)} (h : Rd w B (some ⟨b, o, none⟩) (strsV l)) {i : Nat} {n : List UInt8} (hi : l[i]? = some n) : w.cell? ⟨b, o + i, none⟩ = some (strV n) := by
  have hg := strsV_get hi
  rcases h with h | ⟨b', o', h1, _, h3⟩
  · rw [h] at hg; simp at hg
  · injection h1 with h1
    injection h1 with h1 h2 _
    subst h1 h2
    exact h3 i _ hg
theorem rd_strs {w : World} {B : Nat} {A : Option Addr} {l : List (List UInt8)} (h : Rd w B A (strsV l)) (hl : 0 < l.length) : ∃ b o, A = some ⟨b, o, none⟩ ∧ b < B := by
  rcases h with h | ⟨b, o, h1, h2, _⟩
  · have := length_strsV l
    rw [h] at this
    simp at this
    omega
  · exact ⟨b, o, h1, h2⟩
section
variable {H : Type} {enc : TypeId × Value → H} {P : Program}
/-- append of strings, behind a row of the call's own. -/
theorem wpList_strs (w : World) {ops : Array Oper} {rest : List Oper} {o : Oper} {a : Act} {Q : Exit → Act → World → Prop} (hgd : o.guard = none) (s x : Operand) (t : TypeId)
    (ho : o.op = .call { callee := .builtin .append, args := #[s, x], argTypes := #[t, t] })
    (base : Nat) (e : TypeId) (i : TypeInfo) (ht : P.underlying t = some (.slice e)) (hi : P.info? e = some i) (hz : i.zero = some (.string ⟨#[]⟩)) (hsize : i.size = 1) (hby : i.bytes = 16)
    (v : Value) (n : Nat) (l : List (List UInt8)) (hs : a.eval s = v) (hown : w.ownsRow base e 1 v n (strsV l))
    (B : Nat) (A : Option Addr) (m c : Nat) (k : List (List UInt8)) (hx : a.eval x = .slice A m c) (hm : k.length = m) (hr : Rd w B A (strsV k)) (h63 : n + m ≤ 1000000) (hbase : base ≤ w.heap.size)
    (h : ∀ v' w', w'.ownsRow base e 1 v' (n + m) (strsV (l ++ k)) → w.grownBy w' v.ownBlock → wpList P ops Q rest (a.put o.dst v') w') : wpList P ops Q (o :: rest) a w := by
  rw [strsV_append] at h
  exact wpList_app w hgd s x t ho base e i _ 16 ht hi hz hsize hby rfl v n _ hs hown B A m c _ hx (by rw [length_strsV, hm]) hr (strsV_one _) (by unfold maxLen; omega) (by omega) hbase h
/-- A slice of strings that came in. -/
theorem open_strsL {t e : TypeId} (ht : P.underlying t = some (.slice e)) (he : P.underlying e = some .string) (hc : P.cellsOf e = 1) {W : World} {base : Nat} {v : Value} {d : DataW H} {p : List MemPlace}
    (hval : Value.okWide P W .any base t v) (h : DataW.Trod enc P W 0 (fun _ => true) true t v d p) (hlt : ∀ x ∈ p, x.block < W.heap.size) :
    ∃ (A : Option Addr) (n c : Nat) (l : List (List UInt8)), v = .slice A n c ∧ l.length = n ∧ n ≤ c ∧ c ≤ maxLen ∧ Rd W W.heap.size A (strsV l) ∧ ∀ x ∈ l, x.length ≤ maxLen := by
  obtain ⟨a1, len, cap, rfl⟩ := okWide_slice ht hval
  obtain ⟨fuel, hf⟩ := h
  rcases open_strings ht he hc hf with ⟨hcs, hx⟩ | ⟨a, len', cap', ss, hcs, _, hl, hm, hz, hx, hcell, hsz⟩
  · simp [Value.cells] at hcs
    obtain ⟨rfl, rfl, rfl⟩ := hcs
    exact ⟨none, 0, 0, [], rfl, rfl, Nat.le_refl _, Nat.zero_le _, .inl rfl, fun _ h => by simp at h⟩
  · simp [Value.cells] at hcs
    obtain ⟨rfl, rfl, rfl⟩ := hcs
    simp only [Prod.mk.injEq] at hx
    obtain ⟨rfl, rfl⟩ := hx
    simp only [if_true] at hz
    refine ⟨some a, len, cap, (ss.take len).map fun s => s.data.toList, rfl, by simp; omega, hl, hm, ?_, fun x hx => ?_⟩
    · by_cases h0 : len = 0
      · subst h0; exact .inl (by simp [strsV])
      · obtain ⟨ab, ao, spot⟩ := a
        have hspot : spot = none := by simpa [Addr.add] using World.cell?_spot (hcell 0 (by omega))
        subst hspot
        refine .inr ⟨ab, ao, rfl, hlt (.cell ab ao) (by simp only [MemPlace.row, List.mem_map, List.mem_range]; exact ⟨0, by omega, rfl⟩), fun j u hu => ?_⟩
        have hj : j < len := by
          have := (List.getElem?_eq_some_iff.1 hu).1
          simp [strsV] at this
          omega
        have hcj := hcell j (by omega)
        rw [Addr.add_lit] at hcj
        rw [hcj, ← hu]
        have e2 : ss[j]? = some (ss[j]'(by omega)) := List.getElem?_eq_getElem (by omega)
        simp only [strsV, List.map_map, List.getElem?_map, List.getElem?_take_of_lt hj, e2, Option.map_some, Function.comp]
        rw [strV_of, List.getD_eq_getElem?_getD, e2]
        rfl
    · obtain ⟨s, hs, rfl⟩ := List.mem_map.1 hx
      have := hsz s (List.mem_of_mem_take hs)
      rwa [show s.size = s.data.toList.length from rfl] at this
end
end Go.Proofs.Ythpppkkagepomaa.Path
