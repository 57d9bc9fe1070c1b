/-
  Arguments: what is known, lists of sectors.
-/
import Derived.Test.YtcjkbmmjpkghlaaGreatQF
import Derived.Test.YtcjkbmmjpkghlaaGreatQMetaF
import Derived.Test.YtcjkbmmjpkghlaaGreatQMetaB
import Derived.Test.YtcjkbmmjpkghlaaGreatQMetaX4
import Derived.Deep.Slices
import Derived.Deep.Fields
import Derived.ChangeSame
import Derived.Lib.SmallJoins
namespace Go.Proofs.YtcjkbmmjpkghlaaGreat.Meta
open Go.Proofs.YtcjkbmmjpkghlaaGreat
open Go.RowKit Go.ChangeShapes Go.WideShapes Go.ChangeAt Go.Deep Go.Joins

theorem underG : Tryz.prog.underlying 29 = some (.struct (Tryz.prog.fieldsOf 29)) := by kernel_rfl
theorem underM : Tryz.prog.underlying 60 = some (.struct (Tryz.prog.fieldsOf 60)) := by kernel_rfl
theorem own : ownKnob Tryz.prog.godebug = none := by kernel_rfl
theorem laid : laidOutB Tryz.prog = true := by kernel_rfl
theorem cells5 : Tryz.prog.cellsOf 5 = 1 := by kernel_rfl

/-- An int is one. -/
def I64 (s : Int) : Prop := -9223372036854775808 ≤ s ∧ s ≤ 9223372036854775807
theorem i64_of {n : Int} (h : (Lit.int .i64 n).wf = true) : I64 n := by
  have := bounds_i64 h
  exact ⟨by omega, by omega⟩
theorem four_of {α : Type} {l : List α} (h : l.length = 4) : ∃ a b c d, l = [a, b, c, d] := by
  match l, h with
  | [a, b, c, d], _ => exact ⟨a, b, c, d, rfl⟩

section
variable {H : Type} {enc : TypeId × Value → H} {W : World}
set_option maxRecDepth 100000 in
/-- A geometry that came in. -/
theorem open_geo {base : Nat} {v : Value} {d : DataW H} {p : List MemPlace} (hval : Value.okWide Tryz.prog W .any base 29 v) (h : DataW.Trod enc Tryz.prog W 0 (fun _ => true) true 29 v d p) :
    ∃ a b c d : Int, v = .agg #[.int .i64 a, .int .i64 b, .int .i64 c, .int .i64 d] ∧ I64 a ∧ I64 b ∧ I64 c ∧ I64 d := by
  have hl : (Tryz.prog.fieldsOf 29).toList.length = 4 := by kernel_rfl
  have hm : (Tryz.prog.fieldsOf 29).toList.map (fun f => f.type) = [3, 3, 3, 3] := by kernel_rfl
  obtain ⟨f0, f1, f2, f3, e⟩ := four_of hl
  have e' : Tryz.prog.fieldsOf 29 = #[f0, f1, f2, f3] := by rw [← Array.toList_inj]; exact e
  rw [e] at hm
  simp only [List.map_cons, List.map_nil, List.cons.injEq, and_true] at hm
  have hs : Tryz.prog.underlying 29 = some (.struct #[f0, f1, f2, f3]) := by rw [underG, e']
  have hone : oneCellFields Tryz.prog #[f0, f1, f2, f3] = true := by rw [← e']; kernel_rfl
  obtain ⟨v0, v1, v2, v3, y0, y1, y2, y3, n, rfl, _, _, h0, h1, h2, h3⟩ := open_agg4 hs hone (by kernel_rfl) hval h
  rw [hm.1] at h0
  rw [hm.2.1] at h1
  rw [hm.2.2.1] at h2
  rw [hm.2.2.2] at h3
  obtain ⟨a, ha, _, wa⟩ := DataW.trod_int Tryz.underlying3 h0
  obtain ⟨b, hb, _, wb⟩ := DataW.trod_int Tryz.underlying3 h1
  obtain ⟨c, hc, _, wc⟩ := DataW.trod_int Tryz.underlying3 h2
  obtain ⟨d, hd, _, wd⟩ := DataW.trod_int Tryz.underlying3 h3
  simp only [List.cons.injEq, and_true] at ha hb hc hd
  exact ⟨a, b, c, d, by rw [ha, hb, hc, hd], i64_of wa, i64_of wb, i64_of wc, i64_of wd⟩
end

theorem flat_at {α : Type} {f : α → List Value} {k : Nat} {l : List α} (hf : ∀ x ∈ l, (f x).length = k) {i : Nat} {x : α} (h : l[i]? = some x) {j : Nat} {u : Value} (hu : (f x)[j]? = some u) : (l.flatMap f)[i * k + j]? = some u := by
  induction l generalizing i with
  | nil => simp at h
  | cons m l ih =>
    have hl := hf m (by simp)
    rw [List.flatMap_cons]
    cases i with
    | zero =>
      obtain rfl : m = x := by simpa using h
      have hj := (List.getElem?_eq_some_iff.1 hu).1
      rw [List.getElem?_append_left (by omega), Nat.zero_mul, Nat.zero_add]
      exact hu
    | succ i =>
      rw [Nat.succ_mul, List.getElem?_append_right (by omega), show i * k + k + j - (f m).length = i * k + j by omega]
      exact ih (fun y hy => hf y (by simp [hy])) (by simpa using h)
theorem length_flat {α : Type} {f : α → List Value} {k : Nat} {l : List α} (hf : ∀ x ∈ l, (f x).length = k) : (l.flatMap f).length = l.length * k := by
  induction l with
  | nil => simp
  | cons m l ih =>
    rw [List.flatMap_cons, List.length_append, hf m (by simp), ih (fun y hy => hf y (by simp [hy])), List.length_cons, Nat.succ_mul, Nat.add_comm]
section
variable {H : Type} {enc : TypeId × Value → H} {P : Program} {W : World}
/-- A slice that came in, element by element. -/
theorem open_list {α : Type} {t e : TypeId} {k : Nat} (ht : P.underlying t = some (.slice e)) (hk : P.cellsOf e = k) (hk0 : 0 < k) (f : α → List Value) (z : α) (Φ : α → Prop)
    (hone : ∀ (fuel : Nat) (cs : List Value) (d : DataW H) (p : List MemPlace), cs.length = k → (∀ y ∈ p, y.block < W.heap.size) → DataW.trod enc P W 0 (fun _ => true) true fuel e cs = some (d, p) → ∃ x : α, cs = f x ∧ Φ x)
    {fuel : Nat} {v : Value} {d : DataW H} {p : List MemPlace} (h : DataW.trod enc P W 0 (fun _ => true) true fuel t [v] = some (d, p)) (hlt : ∀ y ∈ p, y.block < W.heap.size) :
    ∃ (A : Option Addr) (n c : Nat) (l : List α), v = .slice A n c ∧ l.length = n ∧ n ≤ c ∧ c ≤ maxLen ∧ Rd W W.heap.size A (l.flatMap f) ∧ (∀ x ∈ l, Φ x) ∧ ∀ x ∈ l, (f x).length = k := by
  rcases open_slice ht h with ⟨hcs, hx⟩ | ⟨a, len, cap, m, n, D, Pl, hcs, _, hl, hm, hmm, hx, hi⟩
  · obtain rfl : v = .slice none 0 0 := by simpa using hcs
    exact ⟨none, 0, 0, [], rfl, rfl, Nat.le_refl _, Nat.zero_le _, .inl rfl, fun x hx => (by cases hx), fun x hx => (by cases hx)⟩
  · obtain rfl : v = .slice (some a) len cap := by simpa using hcs
    simp only [Prod.mk.injEq] at hx
    obtain ⟨rfl, rfl⟩ := hx
    simp only [if_true] at hmm
    subst hmm
    rw [hk] at hi hlt
    have hat : ∀ i, ∃ x : α, i < len → Φ x ∧ (f x).length = k ∧ ∀ j u, (f x)[j]? = some u → W.cell? ((a.add (i * k)).add j) = some u := by
      intro i
      by_cases hlt' : i < len
      · obtain ⟨cs', hc, ht'⟩ := hi i (by omega)
        obtain ⟨_, hcl, hcc⟩ := World.cells?_some hc
        obtain ⟨x, hx1, hx2⟩ := hone n cs' (D i) (Pl i) hcl (fun y hy => hlt y (by
          simp only [List.mem_append, List.mem_flatMap, List.mem_range]
          exact .inr ⟨i, by omega, hy⟩)) ht'
        subst hx1
        exact ⟨x, fun _ => ⟨hx2, hcl, fun j u hu => by rw [hcc j (by have := (List.getElem?_eq_some_iff.1 hu).1; omega), hu]⟩⟩
      · exact ⟨z, fun h => absurd h hlt'⟩
    obtain ⟨F, hF⟩ := Classical.axiomOfChoice hat
    have hget : ∀ i, i < len → ((List.range len).map F)[i]? = some (F i) := fun i hi => by rw [List.getElem?_map, List.getElem?_range hi]; rfl
    have hlen : ∀ x ∈ (List.range len).map F, (f x).length = k := fun x hx => by
      obtain ⟨i, hi', rfl⟩ := List.mem_map.1 hx
      exact (hF i (List.mem_range.1 hi')).2.1
    refine ⟨some a, len, _, (List.range len).map F, rfl, by simp, hl, hm, ?_, fun x hx => ?_, hlen⟩
    · by_cases h0 : len = 0
      · subst h0; exact .inl rfl
      · obtain ⟨ab, ao, spot⟩ := a
        have hspot : spot = none := by
          obtain ⟨u, hu⟩ : ∃ u, (f (F 0))[0]? = some u := ⟨_, List.getElem?_eq_getElem (by rw [(hF 0 (by omega)).2.1]; exact hk0)⟩
          have := (hF 0 (by omega)).2.2 0 u hu
          simpa [Addr.add] using World.cell?_spot this
        subst hspot
        refine .inr ⟨ab, ao, rfl, ?_, fun j u hu => ?_⟩
        · refine hlt (.cell ab ao) ?_
          simp only [MemPlace.row, List.mem_append, List.mem_map, List.mem_range]
          exact .inl ⟨0, Nat.mul_pos (by omega) hk0, rfl⟩
        · have hj : j < len * k := by
            have := (List.getElem?_eq_some_iff.1 hu).1
            rw [length_flat hlen] at this
            simpa using this
          have hil : j / k < len := Nat.div_lt_of_lt_mul (by rw [Nat.mul_comm]; exact hj)
          have hjk : j % k < k := Nat.mod_lt _ hk0
          have e2 : j / k * k + j % k = j := by rw [Nat.mul_comm]; exact Nat.div_add_mod j k
          obtain ⟨u', hu'⟩ : ∃ u, (f (F (j / k)))[j % k]? = some u := ⟨_, List.getElem?_eq_getElem (by rw [(hF _ hil).2.1]; exact hjk)⟩
          have g := flat_at hlen (hget _ hil) hu'
          rw [e2, hu] at g
          have hc := (hF _ hil).2.2 _ _ hu'
          rw [Addr.add_lit, Addr.add_lit, Nat.add_assoc, e2] at hc
          rw [g]
          exact hc
    · obtain ⟨i, hi', rfl⟩ := List.mem_map.1 hx
      exact (hF i (List.mem_range.1 hi')).1
end
theorem rowsV_flat (l : List Intern.Rw) : Intern.rowsV l = l.flatMap fun r => [.int .u16 (r.lab : Int), .int .i64 r.refs] := by
  induction l with
  | nil => rfl
  | cons r l ih => rw [Intern.rowsV, ih]; rfl
theorem intsV_flat (l : List Int) : Inode.intsV l = l.flatMap fun x => [.int .i64 x] := by
  induction l with
  | nil => rfl
  | cons r l ih => rw [List.flatMap_cons, ← ih]; rfl
theorem bytesV_flat (l : List UInt8) : bytesV l = l.flatMap fun x => [byteV x] := by
  induction l with
  | nil => rfl
  | cons r l ih => rw [List.flatMap_cons, ← ih]; rfl
theorem secsV_flat (q : List (Sc × List UInt8)) : secsV (q.map (·.1)) (q.map (·.2)) = q.flatMap fun x => [secV x] := by
  induction q with
  | nil => rfl
  | cons r l ih => rw [List.flatMap_cons, ← ih]; rfl
theorem u8_nat {n : Int} (h : (Lit.int .u8 n).wf = true) : ∃ m : Nat, n = (m : Int) ∧ m < 256 := by
  have := bounds_u8 h
  exact ⟨n.toNat, by omega, by omega⟩
theorem u16_nat {n : Int} (h : (Lit.int .u16 n).wf = true) : ∃ m : Nat, n = (m : Int) ∧ m < 65536 := by
  have := bounds_u16 h
  exact ⟨n.toNat, by omega, by omega⟩
theorem cellsP : Tryz.prog.cellsOf 5 = 1 ∧ Tryz.prog.cellsOf 3 = 1 ∧ Tryz.prog.cellsOf 68 = 2 ∧ Tryz.prog.cellsOf 40 = 14 ∧ Tryz.prog.cellsOf 37 = 1 ∧ Tryz.prog.cellsOf 36 = 1 ∧ Tryz.prog.cellsOf 38 = 8 := by
  refine ⟨?_, ?_, ?_, ?_, ?_, ?_, ?_⟩ <;> kernel_rfl
section
variable {H : Type} {enc : TypeId × Value → H} {W : World}
theorem one_u8 (fuel : Nat) (cs : List Value) (d : DataW H) (p : List MemPlace) (_hl : cs.length = 1) (_hp : ∀ y ∈ p, y.block < W.heap.size) (h : DataW.trod enc Tryz.prog W 0 (fun _ => true) true fuel 5 cs = some (d, p)) : ∃ x : UInt8, cs = [byteV x] ∧ True := by
  obtain ⟨z, e, _, w⟩ := DataW.trod_int Tryz.underlying5 h
  obtain ⟨m, rfl, hm⟩ := u8_nat w
  refine ⟨UInt8.ofNat m, ?_, trivial⟩
  rw [e]
  simp [byteV]
  omega
theorem one_int (fuel : Nat) (cs : List Value) (d : DataW H) (p : List MemPlace) (_hl : cs.length = 1) (_hp : ∀ y ∈ p, y.block < W.heap.size) (h : DataW.trod enc Tryz.prog W 0 (fun _ => true) true fuel 3 cs = some (d, p)) : ∃ x : Int, cs = [.int .i64 x] ∧ (-9223372036854775808 ≤ x ∧ x ≤ 9223372036854775807) := by
  obtain ⟨z, e, _, w⟩ := DataW.trod_int Tryz.underlying3 h
  have := bounds_i64 w
  exact ⟨z, e, by omega⟩
set_option maxRecDepth 100000 in
theorem one_row (fuel : Nat) (cs : List Value) (d : DataW H) (p : List MemPlace) (hcl : cs.length = 2) (_hp : ∀ y ∈ p, y.block < W.heap.size) (h : DataW.trod enc Tryz.prog W 0 (fun _ => true) true fuel 68 cs = some (d, p)) : ∃ x : Intern.Rw, cs = [.int .u16 (x.lab : Int), .int .i64 x.refs] ∧ x.Ok := by
  obtain ⟨xs, n, _, hx, _, hlen, hf⟩ := DataW.trod_struct Tryz.underlying68 h
  obtain ⟨c0, c1, rfl⟩ : ∃ c0 c1, cs = [c0, c1] := by
    match cs, hcl with
    | [c0, c1], _ => exact ⟨c0, c1, rfl⟩
  obtain ⟨y0, y1, rfl⟩ : ∃ y0 y1, xs = [y0, y1] := by
    match xs, hlen with
    | [y0, y1], _ => exact ⟨y0, y1, rfl⟩
  have k24 := (cellsP).2.2.2.2.2.1
  have k3 := (cellsP).2.1
  have h0 : DataW.trod enc Tryz.prog W 0 (fun _ => true) true n 36 [c0] = some y0 := by simpa [k24] using hf 0 _ rfl
  have h1 : DataW.trod enc Tryz.prog W 0 (fun _ => true) true n 3 [c1] = some y1 := by simpa [k3] using hf 1 _ rfl
  obtain ⟨z0, e0, _, w0⟩ := DataW.trod_int Tryz.underlying36 h0
  obtain ⟨z1, e1, _, w1⟩ := DataW.trod_int Tryz.underlying3 h1
  obtain ⟨m0, rfl, b0⟩ := u16_nat w0
  have b1 := bounds_i64 w1
  cases e0; cases e1
  exact ⟨⟨m0, z1⟩, rfl, b0, by show -9223372036854775808 ≤ z1; omega, by show z1 ≤ 9223372036854775807; omega⟩
set_option maxRecDepth 100000 in
theorem one_sec (fuel : Nat) (cs : List Value) (d : DataW H) (p : List MemPlace) (hl : cs.length = 1) (hp : ∀ y ∈ p, y.block < W.heap.size) (h : DataW.trod enc Tryz.prog W 0 (fun _ => true) true fuel 37 cs = some (d, p)) : ∃ x : Sc × List UInt8, cs = [secV x] ∧ (Rd W W.heap.size x.1.A (bytesV x.2) ∧ x.2.length ≤ x.1.c ∧ x.1.c ≤ maxLen) := by
  obtain ⟨v, rfl⟩ : ∃ v, cs = [v] := by
    match cs, hl with
    | [v], _ => exact ⟨v, rfl⟩
  obtain ⟨A, n, c, l, rfl, h1, h2, h3, h4, _, _⟩ := open_list Tryz.underlying37 cellsP.1 (by omega) (fun x : UInt8 => [byteV x]) 0 (fun _ => True) one_u8 h hp
  subst h1
  exact ⟨(⟨A, c⟩, l), rfl, by rw [bytesV_flat]; exact h4, h2, h3⟩
set_option maxRecDepth 100000 in
/-- A list of sectors that came in. -/
theorem open_secsT {fuel : Nat} {v : Value} {d : DataW H} {p : List MemPlace} (h : DataW.trod enc Tryz.prog W 0 (fun _ => true) true fuel 100 [v] = some (d, p)) (hlt : ∀ y ∈ p, y.block < W.heap.size) :
    ∃ (A : Option Addr) (n c : Nat) (L : List Sc) (l : List (List UInt8)), v = .slice A n c ∧ l.length = n ∧ n ≤ c ∧ c ≤ maxLen ∧ SecsAt W W.heap.size A L l := by
  obtain ⟨A, n, c, q, rfl, h1, h2, h3, h4, h5, _⟩ := open_list Tryz.underlying100 cellsP.2.2.2.2.1 (by omega) (fun x : Sc × List UInt8 => [secV x]) (⟨none, 0⟩, []) _ one_sec h hlt
  refine ⟨A, n, c, q.map (·.1), q.map (·.2), rfl, by rw [List.length_map, h1], h2, h3, by simp, by rw [secsV_flat]; exact h4, fun i s b g1 g2 => ?_⟩
  rw [List.getElem?_map, Option.map_eq_some_iff] at g1 g2
  obtain ⟨x, hx, rfl⟩ := g1
  obtain ⟨y, hy, rfl⟩ := g2
  rw [hx] at hy
  injection hy with hy
  subst hy
  exact h5 x (List.mem_of_getElem? hx)
set_option maxRecDepth 100000 in
theorem open_secs {base : Nat} {v : Value} {d : DataW H} {p : List MemPlace} (hval : Value.okWide Tryz.prog W .any base 100 v) (h : DataW.Trod enc Tryz.prog W 0 (fun _ => true) true 100 v d p) (hlt : ∀ x ∈ p, x.block < W.heap.size) :
    ∃ (A : Option Addr) (n c : Nat) (L : List Sc) (l : List (List UInt8)), v = .slice A n c ∧ l.length = n ∧ n ≤ c ∧ c ≤ maxLen ∧ SecsAt W W.heap.size A L l := by
  obtain ⟨a1, len, cap, rfl⟩ := okWide_slice Tryz.underlying100 hval
  obtain ⟨fuel, hf⟩ := h
  exact open_secsT (v := .slice a1 len cap) hf hlt
theorem seven_some {α : Type} {l : List α} (h : l.length = 7) : ∃ a b c d e f g, l = [a, b, c, d, e, f, g] := by
  match l, h with
  | [a, b, c, d, e, f, g], _ => exact ⟨a, b, c, d, e, f, g, rfl⟩
theorem eight_some {α : Type} {l : List α} (h : l.length = 8) : ∃ a b c d e f g i, l = [a, b, c, d, e, f, g, i] := by
  match l, h with
  | [a, b, c, d, e, f, g, i], _ => exact ⟨a, b, c, d, e, f, g, i, rfl⟩
theorem fourteen_some {α : Type} {l : List α} (h : l.length = 14) : ∃ a b c d e f g i j k m n o p, l = [a, b, c, d, e, f, g, i, j, k, m, n, o, p] := by
  match l, h with
  | [a, b, c, d, e, f, g, i, j, k, m, n, o, p], _ => exact ⟨a, b, c, d, e, f, g, i, j, k, m, n, o, p, rfl⟩
set_option maxRecDepth 100000 in
theorem one_ino (fuel : Nat) (cs : List Value) (d : DataW H) (p : List MemPlace) (hcl : cs.length = 14) (_hp : ∀ y ∈ p, y.block < W.heap.size) (h : DataW.trod enc Tryz.prog W 0 (fun _ => true) true fuel 40 cs = some (d, p)) : ∃ x : Inode.Ino, cs = Inode.cellsI x ∧ Inode.Oki x := by
  have hl : (Tryz.prog.fieldsOf 40).toList.length = 7 := by kernel_rfl
  have hm : (Tryz.prog.fieldsOf 40).toList.map (fun f => (f.type, f.offset)) = [(5, 0), (5, 1), (3, 2), (3, 3), (38, 4), (3, 12), (3, 13)] := by kernel_rfl
  obtain ⟨f0, f1, f2, f3, f4, f5, f6, e⟩ := seven_some hl
  have e' : Tryz.prog.fieldsOf 40 = #[f0, f1, f2, f3, f4, f5, f6] := by rw [← Array.toList_inj]; exact e
  rw [e] at hm
  simp only [List.map_cons, List.map_nil, List.cons.injEq, Prod.mk.injEq, and_true] at hm
  obtain ⟨⟨t0, o0⟩, ⟨t1, o1⟩, ⟨t2, o2⟩, ⟨t3, o3⟩, ⟨t4, o4⟩, ⟨t5, o5⟩, t6, o6⟩ := hm
  have hs : Tryz.prog.underlying 40 = some (.struct #[f0, f1, f2, f3, f4, f5, f6]) := by rw [Inode.under24, e']
  have cells5 := cellsP.1
  have cells3 := cellsP.2.1
  have cells22 := cellsP.2.2.2.2.2.2
  obtain ⟨c0, c1, c2, c3, c4, c5, c6, c7, c8, c9, c10, c11, c12, c13, rfl⟩ := fourteen_some hcl
  obtain ⟨xs, n, _, _, _, hlen, hfs⟩ := DataW.trod_struct hs h
  obtain ⟨y0, y1, y2, y3, y4, y5, y6, rfl⟩ := seven_some (show xs.length = 7 by simpa using hlen)
  have h0 := hfs 0 f0 rfl
  have h1 := hfs 1 f1 rfl
  have h2 := hfs 2 f2 rfl
  have h3 := hfs 3 f3 rfl
  have h4 := hfs 4 f4 rfl
  have h5 := hfs 5 f5 rfl
  have h6 := hfs 6 f6 rfl
  rw [t0, o0, cells5] at h0
  rw [t1, o1, cells5] at h1
  rw [t2, o2, cells3] at h2
  rw [t3, o3, cells3] at h3
  rw [t4, o4, cells22] at h4
  rw [t5, o5, cells3] at h5
  rw [t6, o6, cells3] at h6
  have h0 : DataW.trod enc Tryz.prog W 0 (fun _ => true) true n 5 [c0] = some y0 := h0
  have h1 : DataW.trod enc Tryz.prog W 0 (fun _ => true) true n 5 [c1] = some y1 := h1
  have h2 : DataW.trod enc Tryz.prog W 0 (fun _ => true) true n 3 [c2] = some y2 := h2
  have h3 : DataW.trod enc Tryz.prog W 0 (fun _ => true) true n 3 [c3] = some y3 := h3
  have h4 : DataW.trod enc Tryz.prog W 0 (fun _ => true) true n 38 [c4, c5, c6, c7, c8, c9, c10, c11] = some y4 := h4
  have h5 : DataW.trod enc Tryz.prog W 0 (fun _ => true) true n 3 [c12] = some y5 := h5
  have h6 : DataW.trod enc Tryz.prog W 0 (fun _ => true) true n 3 [c13] = some y6 := h6
  obtain ⟨zs, m, _, _, _, hzl, hz⟩ := DataW.trod_array Tryz.underlying38 h4
  obtain ⟨z0, z1, z2, z3, z4, z5, z6, z7, rfl⟩ := eight_some hzl
  rw [cells3] at hz
  have g0 : DataW.trod enc Tryz.prog W 0 (fun _ => true) true m 3 [c4] = some z0 := hz 0 (by omega)
  have g1 : DataW.trod enc Tryz.prog W 0 (fun _ => true) true m 3 [c5] = some z1 := hz 1 (by omega)
  have g2 : DataW.trod enc Tryz.prog W 0 (fun _ => true) true m 3 [c6] = some z2 := hz 2 (by omega)
  have g3 : DataW.trod enc Tryz.prog W 0 (fun _ => true) true m 3 [c7] = some z3 := hz 3 (by omega)
  have g4 : DataW.trod enc Tryz.prog W 0 (fun _ => true) true m 3 [c8] = some z4 := hz 4 (by omega)
  have g5 : DataW.trod enc Tryz.prog W 0 (fun _ => true) true m 3 [c9] = some z5 := hz 5 (by omega)
  have g6 : DataW.trod enc Tryz.prog W 0 (fun _ => true) true m 3 [c10] = some z6 := hz 6 (by omega)
  have g7 : DataW.trod enc Tryz.prog W 0 (fun _ => true) true m 3 [c11] = some z7 := hz 7 (by omega)
  obtain ⟨k, hk, _, wk⟩ := DataW.trod_int Tryz.underlying5 h0
  obtain ⟨r, hr, _, wr⟩ := DataW.trod_int Tryz.underlying5 h1
  obtain ⟨s2, hs2, _, _⟩ := DataW.trod_int Tryz.underlying3 h2
  obtain ⟨s3, hs3, _, _⟩ := DataW.trod_int Tryz.underlying3 h3
  obtain ⟨p0, hp0, _, _⟩ := DataW.trod_int Tryz.underlying3 g0
  obtain ⟨p1, hp1, _, _⟩ := DataW.trod_int Tryz.underlying3 g1
  obtain ⟨p2, hp2, _, _⟩ := DataW.trod_int Tryz.underlying3 g2
  obtain ⟨p3, hp3, _, _⟩ := DataW.trod_int Tryz.underlying3 g3
  obtain ⟨p4, hp4, _, _⟩ := DataW.trod_int Tryz.underlying3 g4
  obtain ⟨p5, hp5, _, _⟩ := DataW.trod_int Tryz.underlying3 g5
  obtain ⟨p6, hp6, _, _⟩ := DataW.trod_int Tryz.underlying3 g6
  obtain ⟨p7, hp7, _, _⟩ := DataW.trod_int Tryz.underlying3 g7
  obtain ⟨p8, hp8, _, _⟩ := DataW.trod_int Tryz.underlying3 h5
  obtain ⟨p9, hp9, _, _⟩ := DataW.trod_int Tryz.underlying3 h6
  obtain ⟨k', rfl, bk⟩ := u8_nat wk
  obtain ⟨r', rfl, br⟩ := u8_nat wr
  simp only [List.cons.injEq, and_true] at hk hr hs2 hs3 hp0 hp1 hp2 hp3 hp4 hp5 hp6 hp7 hp8 hp9
  exact ⟨⟨k', r', s2, s3, [p0, p1, p2, p3, p4, p5, p6, p7, p8, p9]⟩, by rw [hk, hr, hs2, hs3, hp0, hp1, hp2, hp3, hp4, hp5, hp6, hp7, hp8, hp9]; rfl, rfl, bk, br⟩
set_option maxRecDepth 100000 in
/-- What is known that came in. -/
theorem open_met {base : Nat} {v : Value} {d : DataW H} {p : List MemPlace} (hval : Value.okWide Tryz.prog W .any base 60 v) (h : DataW.Trod enc Tryz.prog W 0 (fun _ => true) true 60 v d p) (hlt : ∀ x ∈ p, x.block < W.heap.size) :
    ∃ (x : Mem) (m : Met), v = x.v m ∧ Okm m ∧ Lies W W.heap.size x m := by
  have hl : (Tryz.prog.fieldsOf 60).toList.length = 4 := by kernel_rfl
  have hm : (Tryz.prog.fieldsOf 60).toList.map (fun f => f.type) = [56, 57, 37, 58] := by kernel_rfl
  obtain ⟨f0, f1, f2, f3, e⟩ := four_of hl
  have e' : Tryz.prog.fieldsOf 60 = #[f0, f1, f2, f3] := by rw [← Array.toList_inj]; exact e
  rw [e] at hm
  simp only [List.map_cons, List.map_nil, List.cons.injEq, and_true] at hm
  have hs : Tryz.prog.underlying 60 = some (.struct #[f0, f1, f2, f3]) := by rw [underM, e']
  have hone : oneCellFields Tryz.prog #[f0, f1, f2, f3] = true := by rw [← e']; kernel_rfl
  obtain ⟨v0, v1, v2, v3, y0, y1, y2, y3, n, rfl, _, rfl, h0, h1, h2, h3⟩ := open_agg4 hs hone (by kernel_rfl) hval h
  rw [hm.1] at h0
  rw [hm.2.1] at h1
  rw [hm.2.2.1] at h2
  rw [hm.2.2.2] at h3
  obtain ⟨A0, n0, c0, l0, rfl, a1, a2, a3, a4, a5, _⟩ := open_list Tryz.underlying56 cellsP.2.2.1 (by omega) (fun r : Intern.Rw => [.int .u16 (r.lab : Int), .int .i64 r.refs]) .z _ one_row h0 (fun x hx => hlt x (by simp [hx]))
  obtain ⟨A1, n1, c1, l1, rfl, b1, b2, b3, b4, b5, _⟩ := open_list Tryz.underlying57 cellsP.2.1 (by omega) (fun r : Int => [.int .i64 r]) 0 _ one_int h1 (fun x hx => hlt x (by simp [hx]))
  obtain ⟨A2, n2, c2, l2, rfl, d1, d2, d3, d4, _, _⟩ := open_list Tryz.underlying37 cellsP.1 (by omega) (fun x : UInt8 => [byteV x]) 0 (fun _ => True) one_u8 h2 (fun x hx => hlt x (by simp [hx]))
  obtain ⟨A3, n3, c3, l3, rfl, g1, g2, g3, g4, g5, _⟩ := open_list Tryz.underlying58 cellsP.2.2.2.1 (by omega) Inode.cellsI .z _ one_ino h3 (fun x hx => hlt x (by simp [hx]))
  subst a1 b1 d1 g1
  exact ⟨⟨A0, c0, A1, c1, A2, c2, A3, c3⟩, ⟨l0, l1, l2, l3⟩, rfl, ⟨a5, b5, g5⟩, ⟨by rw [rowsV_flat]; exact a4, by rw [intsV_flat]; exact b4, by rw [bytesV_flat]; exact d4, g4, ⟨a2, a3⟩, ⟨b2, b3⟩, ⟨d2, d3⟩, ⟨g2, g3⟩⟩⟩
end
end Go.Proofs.YtcjkbmmjpkghlaaGreat.Meta
