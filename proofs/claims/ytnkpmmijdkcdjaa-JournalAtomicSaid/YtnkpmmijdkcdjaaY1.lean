/-
  How patches are stored: a list ahead of each fifteen of them.
-/
import Derived.Test.YtnkpmmijdkcdjaaY0
import Derived.RangeFuncBox
import Derived.RangeFuncFrom
import Derived.Shelf.RegionOpen
import Derived.Deep.AppendLies
namespace Go.Proofs.Ytnkpmmijdkcdjaa
open Go.RowKit Go.Shelf

attribute [local go_sem] Oper.semAt_some

theorem info49 : (Try.prog.info? 49).map (fun i => (i.zero, i.size, i.bytes)) = some (some (.agg #[.int .i64 0, .slice none 0 0, .int .u16 0]), 3, 40) := by kernel_rfl

/-- A patch's cells. -/
def PatV (W : World) (T : Nat → Prop) (cs : List Value) (x : Sx) : Prop :=
  ∃ s ba oa cp, cs = [.int .i64 s, .slice (some ⟨ba, oa, none⟩) 64 cp, .int .u16 (x.t : Int)] ∧ T ba ∧ ba < W.heap.size ∧ 64 ≤ cp ∧ W.rangeAt ba oa (bytesV x.b)
def Elems (W : World) (T : Nat → Prop) (L : List (List Value)) (xs : List Sx) : Prop := L.length = xs.length ∧ ∀ (k : Nat) (cs : List Value) (x : Sx), L[k]? = some cs → xs[k]? = some x → PatV W T cs x
theorem PatV.len {W : World} {T : Nat → Prop} {cs : List Value} {x : Sx} (h : PatV W T cs x) : cs.length = 3 := by
  obtain ⟨s, ba, oa, cp, rfl, _⟩ := h; rfl
theorem PatV.one {W : World} {T : Nat → Prop} {cs : List Value} {x : Sx} (h : PatV W T cs x) : ∀ u ∈ cs, u.oneCell' = true := by
  obtain ⟨s, ba, oa, cp, rfl, _⟩ := h
  intro u hu
  simp only [List.mem_cons, List.not_mem_nil, or_false] at hu
  rcases hu with rfl | rfl | rfl <;> rfl
theorem PatV.keep {W W' : World} {T : Nat → Prop} {cs : List Value} {x : Sx} (h : PatV W T cs x) (hs : W.heap.size ≤ W'.heap.size) (hk : ∀ a v, W.cell? a = some v → T a.block → W'.cell? a = some v) : PatV W' T cs x := by
  obtain ⟨s, ba, oa, cp, h1, h2, h3, h4, h5⟩ := h
  exact ⟨s, ba, oa, cp, h1, h2, by omega, h4, fun j v hv => hk _ _ (h5 j v hv) h2⟩
theorem Elems.keep {W W' : World} {T : Nat → Prop} {L : List (List Value)} {xs : List Sx} (h : Elems W T L xs) (hs : W.heap.size ≤ W'.heap.size) (hk : ∀ a v, W.cell? a = some v → T a.block → W'.cell? a = some v) : Elems W' T L xs :=
  ⟨h.1, fun k cs x h1 h2 => (h.2 k cs x h1 h2).keep hs hk⟩
theorem Elems.get {W : World} {T : Nat → Prop} {L : List (List Value)} {xs : List Sx} (h : Elems W T L xs) {k : Nat} {cs : List Value} (hk : L[k]? = some cs) : ∃ x, xs[k]? = some x ∧ PatV W T cs x := by
  have hlt := (List.getElem?_eq_some_iff.1 hk).1
  obtain ⟨x, hx⟩ : ∃ x, xs[k]? = some x := ⟨_, List.getElem?_eq_getElem (by rw [← h.1]; exact hlt)⟩
  exact ⟨x, hx, h.2 k cs x hk hx⟩
theorem Elems.lens {W : World} {T : Nat → Prop} {L : List (List Value)} {xs : List Sx} (h : Elems W T L xs) : ∀ c ∈ L, c.length = 3 := fun c hc => by
  obtain ⟨k, hk⟩ := List.mem_iff_getElem?.1 hc
  obtain ⟨x, _, hx⟩ := h.get hk
  exact hx.len
theorem Elems.append {W : World} {T : Nat → Prop} {L M : List (List Value)} {xs ys : List Sx} (h : Elems W T L xs) (h' : Elems W T M ys) : Elems W T (L ++ M) (xs ++ ys) := by
  refine ⟨by rw [List.length_append, List.length_append, h.1, h'.1], fun k cs x h1 h2 => ?_⟩
  rcases Nat.lt_or_ge k L.length with hk | hk
  · rw [List.getElem?_append_left hk] at h1
    rw [List.getElem?_append_left (by rw [← h.1]; exact hk)] at h2
    exact h.2 k cs x h1 h2
  · rw [List.getElem?_append_right hk] at h1
    rw [List.getElem?_append_right (by rw [← h.1]; exact hk), ← h.1] at h2
    exact h'.2 _ cs x h1 h2
theorem Elems.nil (W : World) (T : Nat → Prop) : Elems W T [] [] := ⟨rfl, fun k cs x h => by simp at h⟩
theorem Elems.one {W : World} {T : Nat → Prop} {cs : List Value} {x : Sx} (h : PatV W T cs x) : Elems W T [cs] [x] := ⟨rfl, fun k cs' x' h1 h2 => by
  cases k with
  | zero => simp at h1 h2; subst h1; subst h2; exact h
  | succ k => simp at h1⟩

/-- The variable s holds a slice of them; U: the blocks of their bytes. -/
structure Held (n₀ Bs : Nat) (T U : Nat → Prop) (v : Value) (L : List (List Value)) (xs : List Sx) (W : World) : Prop where
  box : Boxed W Bs 45 v
  own : W.ownsRow n₀ 49 3 v L.length L.flatten
  els : Elems W U L xs
  ins : ∀ i, U i → (T i ∧ i < n₀) ∨ n₀ ≤ i
  low : ∀ i, U i → i < W.heap.size
  nbox : ¬ U Bs
  nown : ∀ g, v.ownBlock = some g → ¬ U g
def Hold (n₀ Bs : Nat) (T : Nat → Prop) (xs : List Sx) (W : World) : Prop := ∃ U v L, Held n₀ Bs T U v L xs W
theorem hold_own {β : Type} (n₀ Bs : Nat) (T : Nat → Prop) (f : β → List Sx) : Own (fun s W => Hold n₀ Bs T (f s) W) := by
  rintro s X Y row ⟨U, v, L, hv, hr, hE, h4, h5, h6, h7⟩ hg hrow
  refine ⟨U, v, L, hv.kept hg (fun e' => ?_), hr.kept hg ?_, hE.keep hg.size fun a u hc _ => cell_kept hc hg hrow, h4, fun i hi => Nat.lt_of_lt_of_le (h5 i hi) hg.size, h6, h7⟩
  · obtain ⟨o, ho, hc⟩ := hrow Bs e'.symm
    rw [show X.heap[Bs]? = _ from hv] at ho; cases ho; cases hc
  · rcases hr.2 with ⟨rfl, _⟩ | ⟨g, cap, cur, rfl, _, hgb, _⟩
    · exact .inl rfl
    · refine .inr fun e' => ?_
      obtain ⟨o, ho, hc⟩ := hrow g (by simpa [Value.ownBlock] using e'.symm)
      rw [hgb] at ho; cases ho; cases hc

/-- Other variables' boxes lie as they lay. -/
def Boxes (Bs : Nat) (W W' : World) : Prop := ∀ k t u, t ≠ 49 → k ≠ Bs → Boxed W k t u → W'.heap[k]? = W.heap[k]?
theorem Boxes.trans {Bs : Nat} {A B C : World} (h : Boxes Bs A B) (k : Boxes Bs B C) : Boxes Bs A C := fun i t u h1 h2 h3 => by
  have h4 := h i t u h1 h2 h3
  exact (k i t u h1 h2 (h4.trans h3)).trans h4
theorem Boxes.of_below {Bs B : Nat} {W W' : World} (h : Below B W W') (hB : W.heap.size ≤ B) : Boxes Bs W W' := fun k _ _ _ _ h3 => h.block k (by have := h3.lt; omega)
/-- More are appended. -/
theorem Held.push {n₀ Bs : Nat} {T U : Nat → Prop} {v : Value} {L M : List (List Value)} {xs ys : List Sx} {W : World} (h : Held n₀ Bs T U v L xs W) (hn₀ : n₀ ≤ W.heap.size) (hBs : n₀ ≤ Bs) (hM : Elems W U M ys) (ad : Addr) (m c : Nat) (hm : M.length = m) (h0 : 0 < m) (hlen : L.length + m ≤ 1000000)
    (hc : ∀ j u, M.flatten[j]? = some u → W.cell? (ad.add j) = some u) :
    ∃ g cap w', (Builtin.append_ #[45, 45] 45 #[v, .slice (some ad) m c]).run Try.prog W = .ok (.slice (some ⟨g, 0, none⟩) (L.length + m) cap) w' ∧ w'.cell? ⟨Bs, 0, none⟩ = some v ∧ w'.frozen? ⟨Bs, 0, none⟩ = false ∧ W.heap.size ≤ w'.heap.size ∧
      Held n₀ Bs T U (.slice (some ⟨g, 0, none⟩) (L.length + m) cap) (L ++ M) (xs ++ ys) (w'.setCell ⟨Bs, 0, none⟩ (.slice (some ⟨g, 0, none⟩) (L.length + m) cap)) ∧
      KeepsOthers W (w'.setCell ⟨Bs, 0, none⟩ (.slice (some ⟨g, 0, none⟩) (L.length + m) cap)) ∧ Below n₀ W (w'.setCell ⟨Bs, 0, none⟩ (.slice (some ⟨g, 0, none⟩) (L.length + m) cap))  ∧ Boxes Bs W (w'.setCell ⟨Bs, 0, none⟩ (.slice (some ⟨g, 0, none⟩) (L.length + m) cap)) := by
  obtain ⟨i0, hi, hz0, hz1, hz2⟩ := info_parts info49
  obtain ⟨g, cap, w', hrun, hown, hg, hat, hlt⟩ := run_append_lies (P := Try.prog) W 45 45 n₀ 49 i0 _ 3 40 Try.underlying45 hi hz0 hz1 hz2 rfl (by decide) v L.length L.flatten h.own ad m c M.flatten (by rw [flat_length hM.lens, hm]) hc (mem_flat_one fun cs hcs => by
    obtain ⟨k, hk⟩ := List.mem_iff_getElem?.1 hcs
    obtain ⟨x, _, hx⟩ := hM.get hk
    exact hx.one) h0 (by simp only [maxLen]; omega) (by omega) hn₀ W.heap.size rfl
  have hbr : some Bs ≠ v.ownBlock := h.box.not_row (by decide) h.own
  have hb1 : Boxed w' Bs 45 v := h.box.kept hg hbr
  have hbs : some Bs ≠ (Value.slice (some ⟨g, 0, none⟩) (L.length + m) cap).ownBlock := hb1.not_row (by decide) hown
  have hsz := hg.size
  have hkeep : ∀ a u, W.cell? a = some u → U a.block → (w'.setCell ⟨Bs, 0, none⟩ (.slice (some ⟨g, 0, none⟩) (L.length + m) cap)).cell? a = some u := fun a u ha hu => by
    have h1 : w'.cell? a = some u := hg.cell ha fun e => h.nown _ e.symm hu
    exact (World.cell?_of_block (Below.heap_setCell w' ⟨Bs, 0, none⟩ _ a.block (fun e => h.nbox (by have e' : a.block = Bs := e; rw [← e']; exact hu)))).trans h1
  refine ⟨g, cap, w', hrun, hb1.cell, hb1.frozen, hsz, ⟨hb1.set _, ?_, ?_, h.ins, fun i hi => ?_, h.nbox, ?_⟩, ?_, ?_, fun k t u hk1 hk2 hk3 => ?_⟩
  · rw [List.length_append, List.flatten_append, hm]
    exact hown.kept (grownBy_setCell' w' Bs _) (.inr hbs.symm)
  · exact (h.els.keep (by simpa using hsz) hkeep).append (hM.keep (by simpa using hsz) hkeep)
  · have := h.low i hi; simpa using Nat.lt_of_lt_of_le this hsz
  · intro g' hg' hu
    obtain rfl : g = g' := by simpa [Value.ownBlock] using hg'
    rcases hat with hat | hat
    · exact h.nown g hat hu
    · have := h.low g hu; omega
  · refine (KeepsOthers.of_grownBy hg fun j o ej hj => ?_).trans (KeepsOthers.setCell _ _ _)
    rcases h.own.2 with ⟨rfl, _⟩ | ⟨g', cap', cur, rfl, _, hgb, _⟩
    · simp [Value.ownBlock] at ej
    · obtain rfl : g' = j := by simpa [Value.ownBlock] using ej
      rw [hgb] at hj; cases hj; rfl
  · refine ((Below.refl n₀ W).grown hg hn₀ fun j ej => ?_).setCell (p := ⟨Bs, 0, none⟩) hBs _
    rcases h.own.2 with ⟨rfl, _⟩ | ⟨g', cap', cur, rfl, hb, _, _⟩
    · simp [Value.ownBlock] at ej
    · obtain rfl : g' = j := by simpa [Value.ownBlock] using ej
      exact hb
  · exact (Below.heap_setCell w' ⟨Bs, 0, none⟩ _ k hk2).trans (hg.block k hk3.lt (hk3.not_row hk1 h.own))

theorem Held.below {n₀ Bs : Nat} {T U : Nat → Prop} {v : Value} {L : List (List Value)} {xs : List Sx} {W W' : World} (h : Held n₀ Bs T U v L xs W) (hb : Below W.heap.size W W') : Held n₀ Bs T U v L xs W' :=
  ⟨(hb.block Bs h.box.lt).trans h.box, own_below h.own hb, h.els.keep hb.size fun _ _ ha hu => (hb.cell (h.low _ hu)).trans ha, h.ins, fun i hi => Nat.lt_of_lt_of_le (h.low i hi) hb.size, h.nbox, h.nown⟩
theorem Held.wider {n₀ Bs : Nat} {T U V : Nat → Prop} {v : Value} {L : List (List Value)} {xs : List Sx} {W : World} (h : Held n₀ Bs T U v L xs W) (h1 : ∀ i, V i → (T i ∧ i < n₀) ∨ n₀ ≤ i) (h2 : ∀ i, V i → i < W.heap.size) (h3 : ¬ V Bs) (h4 : ∀ g, v.ownBlock = some g → ¬ V g) :
    Held n₀ Bs T (fun i => U i ∨ V i) v L xs W :=
  ⟨h.box, h.own, ⟨h.els.1, fun k cs x hk hx => by obtain ⟨s, ba, oa, cp, e1, e2, e3⟩ := h.els.2 k cs x hk hx; exact ⟨s, ba, oa, cp, e1, .inl e2, e3⟩⟩, fun i hi => hi.elim (h.ins i) (h1 i), fun i hi => hi.elim (h.low i) (h2 i), fun hi => hi.elim h.nbox h3, fun g hg hi => hi.elim (h.nown g hg) (h4 g hg)⟩
theorem Held.ownLow {n₀ Bs : Nat} {T U : Nat → Prop} {v : Value} {L : List (List Value)} {xs : List Sx} {W : World} (h : Held n₀ Bs T U v L xs W) {g : Nat} (hg : v.ownBlock = some g) : n₀ ≤ g ∧ g < W.heap.size := by
  rcases h.own.2 with ⟨rfl, _⟩ | ⟨g', cap', cur, rfl, hb, hgb, _⟩
  · simp [Value.ownBlock] at hg
  · obtain rfl : g' = g := by simpa [Value.ownBlock] using hg
    exact ⟨hb, (Array.getElem?_eq_some_iff.1 hgb).1⟩

/-- A list is appended. -/
theorem Held.list {n₀ Bs : Nat} {T U : Nat → Prop} {v : Value} {L : List (List Value)} {xs : List Sx} {W w4 : World} (h : Held n₀ Bs T U v L xs W) (hn₀ : n₀ ≤ W.heap.size) (hBs : n₀ ≤ Bs) (hb : Below W.heap.size W w4) {g1 cc : Nat} {q : List (Nat × Sx)} (hg1 : W.heap.size ≤ g1) (hg2 : g1 < w4.heap.size) (hcc : 64 ≤ cc)
    (hr : w4.rangeAt g1 0 (bytesV (listB q))) (hlen : L.length ≤ 900000) :
    ∃ U' g cap w', (Builtin.append_ #[45, 45] 45 #[v, .slice (some ⟨w4.heap.size, 0, none⟩) 1 1]).run Try.prog (w4.alloc (.cells #[.int .i64 0, .slice (some ⟨g1, 0, none⟩) 64 cc, .int .u16 0] 49)) = .ok (.slice (some ⟨g, 0, none⟩) (L.length + 1) cap) w' ∧ w'.cell? ⟨Bs, 0, none⟩ = some v ∧ w'.frozen? ⟨Bs, 0, none⟩ = false ∧
      Held n₀ Bs T U' (.slice (some ⟨g, 0, none⟩) (L.length + 1) cap) (L ++ [[.int .i64 0, .slice (some ⟨g1, 0, none⟩) 64 cc, .int .u16 0]]) (xs ++ [listS q]) (w'.setCell ⟨Bs, 0, none⟩ (.slice (some ⟨g, 0, none⟩) (L.length + 1) cap)) ∧
      KeepsOthers W (w'.setCell ⟨Bs, 0, none⟩ (.slice (some ⟨g, 0, none⟩) (L.length + 1) cap)) ∧ Below n₀ W (w'.setCell ⟨Bs, 0, none⟩ (.slice (some ⟨g, 0, none⟩) (L.length + 1) cap))  ∧ Boxes Bs W (w'.setCell ⟨Bs, 0, none⟩ (.slice (some ⟨g, 0, none⟩) (L.length + 1) cap)) := by
  have hb5 : Below W.heap.size W (w4.alloc (.cells #[.int .i64 0, .slice (some ⟨g1, 0, none⟩) 64 cc, .int .u16 0] 49)) := hb.alloc hb.size _
  have h5 := (h.below hb5).wider (V := fun i => i = g1) (fun i hi => by have hi' : i = g1 := hi; right; omega) (fun i hi => by have hi' : i = g1 := hi; simp; omega) (fun e => by have e' : Bs = g1 := e; have := h.box.lt; omega) (fun g hg e => by have e' : g = g1 := e; have := (h.ownLow hg).2; omega)
  obtain ⟨g, cap, w', h1, h2, h3, h4, h6, h7, h8, h9⟩ := h5.push (by have := hb5.size; omega) hBs (M := [[.int .i64 0, .slice (some ⟨g1, 0, none⟩) 64 cc, .int .u16 0]]) (ys := [listS q])
    (Elems.one ⟨0, g1, 0, cc, rfl, .inr rfl, by simp; omega, hcc, World.rangeAt_alloc hr _⟩) ⟨w4.heap.size, 0, none⟩ 1 1 rfl (by omega) (by omega)
    (World.news_of_block (cs := #[.int .i64 0, .slice (some ⟨g1, 0, none⟩) 64 cc, .int .u16 0]) (heap_alloc_new w4 _))
  have ko : KeepsOthers W (w4.alloc (.cells #[.int .i64 0, .slice (some ⟨g1, 0, none⟩) 64 cc, .int .u16 0] 49)) := ⟨hb5.size, fun k o hk _ => (hb5.block k (Array.getElem?_eq_some_iff.1 hk).1).trans hk⟩
  exact ⟨_, g, cap, w', h1, h2, h3, h6, ko.trans h7, (hb5.mono hn₀).trans h8, (Boxes.of_below hb5 (Nat.le_refl _)).trans h9⟩

/-- The cells of patches. -/
theorem pats_cells {W : World} {T : Nat → Prop} {b o : Nat} {q : List (Nat × Sx)} (h : Pats W T (some ⟨b, o, none⟩) (ints q)) : ∃ M, Elems W T M (q.map (·.2)) ∧ ∀ j u, M.flatten[j]? = some u → W.cell? ((⟨b, o, none⟩ : Addr).add j) = some u := by
  have hk : ∀ (k : Nat) (p : Nat × Sx), q[k]? = some p → PatV W T [(W.cell? ⟨b, o + k * 3, none⟩).getD undef, (W.cell? ⟨b, o + k * 3 + 1, none⟩).getD undef, (W.cell? ⟨b, o + k * 3 + 2, none⟩).getD undef] p.2 ∧
      ∀ j u, [(W.cell? ⟨b, o + k * 3, none⟩).getD undef, (W.cell? ⟨b, o + k * 3 + 1, none⟩).getD undef, (W.cell? ⟨b, o + k * 3 + 2, none⟩).getD undef][j]? = some u → W.cell? ⟨b, o + (k * 3 + j), none⟩ = some u := fun k p hp => by
    obtain ⟨b', o', ba, oa, cp, e1, e2, e3, e4, e5, e6, e7, e8, e9, e10⟩ := h k _ (ints_get hp)
    cases e1
    rw [e7, e8, e9]
    refine ⟨⟨p.1, ba, oa, cp, rfl, e3, e5, e6, e10⟩, fun j u hu => ?_⟩
    match j, hu with
    | 0, hu => rw [Nat.add_zero, e7]; simpa using hu
    | 1, hu => rw [← Nat.add_assoc, e8]; simpa using hu
    | 2, hu => rw [← Nat.add_assoc, e9]; simpa using hu
    | j + 3, hu => simp at hu
  refine ⟨(List.range q.length).map fun k => [(W.cell? ⟨b, o + k * 3, none⟩).getD undef, (W.cell? ⟨b, o + k * 3 + 1, none⟩).getD undef, (W.cell? ⟨b, o + k * 3 + 2, none⟩).getD undef], ⟨by simp, fun k cs x h1 h2 => ?_⟩, fun j u hu => ?_⟩
  · rw [List.getElem?_map, Option.map_eq_some_iff] at h1 h2
    obtain ⟨k', hk', rfl⟩ := h1
    obtain ⟨p, hp, rfl⟩ := h2
    rw [List.getElem?_range (List.getElem?_eq_some_iff.1 hp).1] at hk'
    cases hk'
    exact (hk k p hp).1
  · obtain ⟨i, k, c, rfl, hk3, hi, hc⟩ := flat_of (size := 3) (by omega) (fun c hc => by
      obtain ⟨k, _, rfl⟩ := List.mem_map.1 hc
      rfl) hu
    rw [List.getElem?_map, Option.map_eq_some_iff] at hi
    obtain ⟨k', hk', rfl⟩ := hi
    have hlt := (List.getElem?_eq_some_iff.1 hk').1
    rw [List.length_range] at hlt
    rw [List.getElem?_range hlt] at hk'
    cases hk'
    have := (hk i _ (List.getElem?_eq_getElem hlt)).2 k u hc
    rw [Addr.add_mid]
    exact this

/-- A group is appended. -/
theorem Held.group {n₀ Bs : Nat} {T U : Nat → Prop} {v : Value} {L : List (List Value)} {xs : List Sx} {W : World} (h : Held n₀ Bs T U v L xs W) (hn₀ : n₀ ≤ W.heap.size) (hBs : n₀ ≤ Bs) {b o : Nat} {q : List (Nat × Sx)} (hP : Pats W (fun i => T i ∧ i < n₀) (some ⟨b, o, none⟩) (ints q)) (e : Nat) (he : q.length = e) (h0 : 0 < e) (c : Nat) (hlen : L.length + e ≤ 1000000) :
    ∃ U' M g cap w', M.length = e ∧ (Builtin.append_ #[45, 45] 45 #[v, .slice (some ⟨b, o, none⟩) e c]).run Try.prog W = .ok (.slice (some ⟨g, 0, none⟩) (L.length + e) cap) w' ∧ w'.cell? ⟨Bs, 0, none⟩ = some v ∧ w'.frozen? ⟨Bs, 0, none⟩ = false ∧
      Held n₀ Bs T U' (.slice (some ⟨g, 0, none⟩) (L.length + e) cap) (L ++ M) (xs ++ q.map (·.2)) (w'.setCell ⟨Bs, 0, none⟩ (.slice (some ⟨g, 0, none⟩) (L.length + e) cap)) ∧
      KeepsOthers W (w'.setCell ⟨Bs, 0, none⟩ (.slice (some ⟨g, 0, none⟩) (L.length + e) cap)) ∧ Below n₀ W (w'.setCell ⟨Bs, 0, none⟩ (.slice (some ⟨g, 0, none⟩) (L.length + e) cap))  ∧ Boxes Bs W (w'.setCell ⟨Bs, 0, none⟩ (.slice (some ⟨g, 0, none⟩) (L.length + e) cap)) := by
  obtain ⟨M, hM, hc⟩ := pats_cells hP
  have h5 := h.wider (V := fun i => T i ∧ i < n₀) (fun i hi => .inl hi) (fun i hi => by have := hi.2; omega) (fun hi => by have := hi.2; omega) (fun g hg hi => by have := (h.ownLow hg).1; have := hi.2; omega)
  have hM' : Elems W (fun i => U i ∨ (T i ∧ i < n₀)) M (q.map (·.2)) := ⟨hM.1, fun k cs x hk hx => by obtain ⟨s, ba, oa, cp, e1, e2, e3⟩ := hM.2 k cs x hk hx; exact ⟨s, ba, oa, cp, e1, .inr e2, e3⟩⟩
  have hMl : M.length = e := by rw [hM.1, List.length_map, he]
  obtain ⟨g, cap, w', h1, h2, h3, h4, h6, h7, h8, h9⟩ := h5.push hn₀ hBs hM' ⟨b, o, none⟩ e c hMl h0 hlen hc
  exact ⟨_, M, g, cap, w', hMl, h1, h2, h3, h6, h7, h8, h9⟩

theorem twoLt {W3 W : World} {k : Nat} {t : TypeId} {u : Value} (h : W.heap[k]? = W3.heap[k]?) (hb : Boxed W3 k t u) : k < W.heap.size := (Array.getElem?_eq_some_iff.1 (h.trans hb)).1
/-- append at a step of a drawn region inside a fence. -/
theorem stepIn_append_run {F : Fence} {n : Nat} {P : Program} {w w' : World} {ops : Array Oper} {o : Oper} {a : Act} {K : Act → World → Prop} {Q : Exit → Act → World → Prop} {E : Prop} (hgd : o.guard = none) (s x : Operand) (t : TypeId)
    (hop : o.op = Op.call { callee := Callee.builtin Builtin.append, args := #[s, x], argTypes := #[t, t] }) {v u r : Value} (hs : a.eval s = v) (hx : a.eval x = u) (hrun : (Builtin.append_ #[t, t] o.type #[v, u]).run P w = .ok r w') (h : K (a.put o.dst r) w') :
    if Region.wanted o (yielded ops a.tmps) = true then Oper.wpIn F n P o a w K Q else E := by
  have hw : Region.wanted o (yielded ops a.tmps) = true := by simp [Region.wanted, hgd]
  rw [if_pos hw]
  unfold Oper.wpIn
  refine ⟨?_, ?_⟩
  · simp [Oper.about, hop, resolve, Target.leads, Sem.run_pure]
  · rw [Oper.semAt_plain F _ _ (by rw [hop]; intro c hc'; cases hc')]
    simp [execOp, hop, resolve, invoke, builtin, hs, hx, hrun, Result.andThen]
    exact h
theorem wpListIn_append_run {F : Fence} {n : Nat} {P : Program} {w w' : World} {ops : Array Oper} {rest : List Oper} {o : Oper} {a : Act} {Q : Exit → Act → World → Prop} (hg : o.guard = none) (s x : Operand) (t : TypeId)
    (hop : o.op = Op.call { callee := Callee.builtin Builtin.append, args := #[s, x], argTypes := #[t, t] }) {v u r : Value} (hs : a.eval s = v) (hx : a.eval x = u) (hrun : (Builtin.append_ #[t, t] o.type #[v, u]).run P w = .ok r w') (h : wpListIn F n P ops Q rest (a.put o.dst r) w') :
    wpListIn F n P ops Q (o :: rest) a w := by
  refine wpListIn_plain hg fun K hK' => ?_
  unfold Oper.wpIn
  refine ⟨?_, ?_⟩
  · simp [Oper.about, hop, resolve, Target.leads, Sem.run_pure]
  · rw [Oper.semAt_plain F _ _ (by rw [hop]; intro c hc'; cases hc')]
    simp [execOp, hop, resolve, invoke, builtin, hs, hx, hrun, Result.andThen]
    exact hK' _ _ h
/-- What one group is stored as. -/
def unit (g : List (Nat × Sx)) (c : Nat) : List Sx := listS (grp g c) :: (grp g c).map (·.2)
theorem units_snoc {α : Type} (g : List (Nat × Sx)) (f : α → Nat) (pre : List α) (x : α) : ((pre ++ [x]).map f).flatMap (unit g) = ((pre.map f).flatMap (unit g) ++ [listS (grp g (f x))]) ++ (grp g (f x)).map (·.2) := by
  rw [List.map_append, List.flatMap_append, List.append_assoc]
  simp [unit]
theorem length_units (g : List (Nat × Sx)) (cs : List Nat) : (cs.flatMap (unit g)).length ≤ 16 * cs.length := by
  induction cs with
  | nil => simp
  | cons c cs ih =>
    rw [List.flatMap_cons, List.length_append, List.length_cons]
    have : (unit g c).length ≤ 16 := by simp only [unit, List.length_cons, List.length_map, length_grp]; omega
    omega

theorem grp_mem {g : List (Nat × Sx)} {c : Nat} {p : Nat × Sx} (h : p ∈ grp g c) : p ∈ g := List.mem_of_mem_drop (List.mem_of_mem_take h)
theorem grp_get {g : List (Nat × Sx)} {c k : Nat} {p : Nat × Sx} (h : (grp g c)[k]? = some p) : k < 15 ∧ g[15 * c + k]? = some p := by
  rw [grp, List.getElem?_take] at h
  split at h
  · rw [List.getElem?_drop] at h; exact ⟨by assumption, h⟩
  · cases h
theorem Pats.sub {w : World} {T : Nat → Prop} {b0 o0 : Nat} {g : List (Nat × Sx)} (h : Pats w T (some ⟨b0, o0, none⟩) (ints g)) (c : Nat) : Pats w T (some ⟨b0, o0 + 15 * c * 3, none⟩) (ints (grp g c)) := fun k p hk => by
  rw [ints, List.getElem?_map, Option.map_eq_some_iff] at hk
  obtain ⟨q, hq, rfl⟩ := hk
  obtain ⟨h1, h2⟩ := grp_get hq
  obtain ⟨b, o, ba, oa, cp, h3, h4, h5, h6, h7, h8, h9, h10, h11, h12⟩ := h (15 * c + k) _ (ints_get h2)
  cases h3
  exact ⟨b0, o0 + 15 * c * 3, ba, oa, cp, rfl, h4, h5, h6, h7, h8, by rw [show o0 + 15 * c * 3 + k * 3 = o0 + (15 * c + k) * 3 by omega]; exact h9, by rw [show o0 + 15 * c * 3 + k * 3 = o0 + (15 * c + k) * 3 by omega]; exact h10, by rw [show o0 + 15 * c * 3 + k * 3 = o0 + (15 * c + k) * 3 by omega]; exact h11, h12⟩

theorem storedTo_units (g : List (Nat × Sx)) : ∀ C, storedTo g C = (List.range C).flatMap (unit g)
  | 0 => rfl
  | C + 1 => by rw [storedTo, storedTo_units g C, List.range_succ, List.flatMap_append]; simp [unit]

/-- The patches, those ahead of j with their sectors. -/
def Numb (U : Nat → Prop) (gs start j : Nat) (xs : List Sx) (W : World) : Prop :=
  ∀ k x, xs[k]? = some x → ∃ s ba oa cp, U ba ∧ ba < W.heap.size ∧ 64 ≤ cp ∧ W.cell? ⟨gs, k * 3, none⟩ = some (.int .i64 s) ∧ (k < j → s = ((start + 1 + k : Nat) : Int)) ∧ W.cell? ⟨gs, k * 3 + 1, none⟩ = some (.slice (some ⟨ba, oa, none⟩) 64 cp) ∧
    W.cell? ⟨gs, k * 3 + 2, none⟩ = some (.int .u16 (x.t : Int)) ∧ W.rangeAt ba oa (bytesV x.b)
theorem Held.numb {n₀ Bs : Nat} {T U : Nat → Prop} {gs m cap : Nat} {L : List (List Value)} {xs : List Sx} {W : World} (h : Held n₀ Bs T U (.slice (some ⟨gs, 0, none⟩) m cap) L xs W) (hm : m = L.length) (start : Nat) : Numb U gs start 0 xs W := fun k x hx => by
  subst hm
  have hk : k < L.length := by rw [h.els.1]; exact (List.getElem?_eq_some_iff.1 hx).1
  have hlk : L[k]? = some L[k] := List.getElem?_eq_getElem hk
  have hrow := Row.of_owns h.own rfl h.els.lens (fun c hc => by
    obtain ⟨k, hk⟩ := List.mem_iff_getElem?.1 hc
    obtain ⟨x, _, hx⟩ := h.els.get hk
    exact hx.one)
  obtain ⟨s, ba, oa, cp, hcs, e2, e3, e4, e5⟩ := h.els.2 k _ x hlk hx
  have hr := (hrow.elem k _ hlk).2.2
  rw [hcs] at hr
  exact ⟨s, ba, oa, cp, e2, e3, e4, hr 0 _ rfl, fun h => absurd h (Nat.not_lt_zero _), hr 1 _ rfl, hr 2 _ rfl, e5⟩
theorem Numb.set {U : Nat → Prop} {gs start j : Nat} {xs : List Sx} {W : World} (h : Numb U gs start j xs W) (hg : ¬ U gs) (v : Value) (hv : v = .int .i64 ((start + 1 + j : Nat) : Int)) : Numb U gs start (j + 1) xs (W.setCell ⟨gs, j * 3, none⟩ v) := fun k x hx => by
  obtain ⟨s, ba, oa, cp, h1, h2, h3, h4, h5, h6, h7, h8⟩ := h k x hx
  have ho : ∀ i, i ≠ j * 3 → (W.setCell ⟨gs, j * 3, none⟩ v).cell? ⟨gs, i, none⟩ = W.cell? ⟨gs, i, none⟩ := fun i hi => World.cell?_setCell_other _ _ _ _ (fun e => hi (congrArg Addr.off e).symm)
  have hb : ba ≠ gs := fun e => hg (e ▸ h1)
  have hrr : (W.setCell ⟨gs, j * 3, none⟩ v).rangeAt ba oa (bytesV x.b) := range_of_block h8 (Below.heap_setCell W ⟨gs, j * 3, none⟩ v ba hb)
  by_cases hk : k = j
  · subst hk
    refine ⟨((start + 1 + k : Nat) : Int), ba, oa, cp, h1, by simpa using h2, h3, ?_, fun _ => rfl, (ho _ (by omega)).trans h6, (ho _ (by omega)).trans h7, hrr⟩
    rw [hv]
    exact World.cell?_setCell_same' _ _ _ (by rw [h4]; rfl)
  · exact ⟨s, ba, oa, cp, h1, by simpa using h2, h3, (ho _ (by omega)).trans h4, fun hlt => h5 (by omega), (ho _ (by omega)).trans h6, (ho _ (by omega)).trans h7, hrr⟩

section
variable {w : World} {T : Nat → Prop} {bj b start n seq : Nat} {b0 o0 : Nat} {g : List (Nat × Sx)}
set_option maxRecDepth 100000 in
set_option maxHeartbeats 4000000 in
theorem stored_any (hJ : JB w bj b start n seq) (hL : Pats w T (some ⟨b0, o0, none⟩) (ints g)) (m c : Nat) (hm : g.length = m) (h0 : 0 < m) (hmm : m ≤ 100000) (hmc : m ≤ c) (hs : start ≤ 4096) (hf : ∀ p ∈ g, p.1 < 65536) :
    Calls Try.prog 33 #[.pointer (some ⟨bj, 0, none⟩), .slice (some ⟨b0, o0, none⟩) m c] w fun e w' => ∃ gs cap, e = .returned (.slice (some ⟨gs, 0, none⟩) (stored g).length cap) ∧ (stored g).length ≤ cap ∧
      Pats w' (fun i => T i ∨ w.heap.size ≤ i) (some ⟨gs, 0, none⟩) (ints (placed (start + 1) (stored g))) ∧ Below w.heap.size w w' := by
  have HJ := Lib.hid hJ
  have HL := Lib.hid hL
  have Hm := Lib.hid hm
  have Hf := Lib.hid hf
  have hmx : Try.prog.follows .mixedOrders = true := by kernel_rfl
  clear hJ hL hm hf
  refine (callsIn_wide (n := 5)).1 ?_
  refine callsIn_of_wp_marks Try.func33 rfl trivial ?_ rfl
  simp only [Try.ntmps33, List.size_toArray, List.length_cons, List.length_nil, Nat.reduceAdd, Nat.reduceSub, Array.replicate_succ, Array.replicate_zero, List.push_toArray, List.append_toArray, List.nil_append, List.cons_append]
  gi_wp2_with (refine ⟨trivial, ?_⟩; gi_at_call 47; refine (chunk_in _ _ _ _ _).mono ?_; rintro e w' ⟨rfl, rfl⟩)
  have bS := Boxed.new w 45 (.slice none 0 0)
  have e1 : (w.alloc (.cells #[.slice none 0 0] 45)).heap.size = w.heap.size + 1 := by simp
  obtain ⟨w1, hw1⟩ : ∃ w1, w1 = w.alloc (.cells #[.slice none 0 0] 45) := ⟨_, rfl⟩
  have b1 : Below w.heap.size w w1 := by rw [hw1]; exact (Below.refl _ w).alloc (Nat.le_refl _) _
  rw [← hw1] at bS e1 ⊢
  have bL := Boxed.new w1 45 (.slice (some ⟨b0, o0, none⟩) m c)
  have bN := Boxed.new (w1.alloc (.cells #[.slice (some ⟨b0, o0, none⟩) m c] 45)) 3 (.int .i64 15)
  have e2 : (w1.alloc (.cells #[.slice (some ⟨b0, o0, none⟩) m c] 45)).heap.size = w1.heap.size + 1 := by simp
  obtain ⟨w2, hw2⟩ : ∃ w2, w2 = w1.alloc (.cells #[.slice (some ⟨b0, o0, none⟩) m c] 45) := ⟨_, rfl⟩
  rw [← hw2] at bL e2 bN ⊢
  have e3 : (w2.alloc (.cells #[.int .i64 15] 3)).heap.size = w2.heap.size + 1 := by simp
  obtain ⟨w3, hw3⟩ : ∃ w3, w3 = w2.alloc (.cells #[.int .i64 15] 3) := ⟨_, rfl⟩
  have b2 : Below w.heap.size w1 w2 := by rw [hw2]; exact (Below.refl _ w1).alloc (by omega) _
  have b3 : Below w.heap.size w2 w3 := by rw [hw3]; exact (Below.refl _ w2).alloc (by omega) _
  have bS3 : Boxed w3 w.heap.size 45 (.slice none 0 0) := by rw [hw3, hw2]; exact (bS.alloc _).alloc _
  have bL3 : Boxed w3 (w.heap.size + 1) 45 (.slice (some ⟨b0, o0, none⟩) m c) := by rw [hw3, ← e1]; exact bL.alloc _
  have bN3 : Boxed w3 (w.heap.size + 1 + 1) 3 (.int .i64 15) := by rw [hw3, show w.heap.size + 1 + 1 = w2.heap.size by omega]; exact bN
  rw [← hw3] at e3 ⊢
  have hsz : w3.heap.size = w.heap.size + 3 := by omega
  have B3 : Below w.heap.size w w3 := (b1.trans b2).trans b3
  clear bS bL bN b1 b2 b3
  clear hw1 hw2 hw3 e1 e2 e3
  refine wpIn_rangeFunc_ownF rfl (by omega) (gf := 56) (lb := #[.pointer (some ⟨w.heap.size + 1, 0, none⟩), .pointer (some ⟨w.heap.size + 1 + 1, 0, none⟩)]) rfl trivial (enters_of Try.func56 (by kernel_rfl) rfl)
    (chunk_stops 4 (by omega) (w.heap.size + 1) (w.heap.size + 1 + 1) b0 o0 m c (by omega) hmc w3 (by omega) (by omega) bL3.cell bN3.cell) Two.trans (fun W k o o' hk _ _ _ => ⟨World.putObj_heap_other (by omega), World.putObj_heap_other (by omega)⟩) (Below.refl _ _) (fun _ => rfl)
    (fun pre W => Hold w.heap.size w.heap.size T ((pre.map (·.1)).flatMap (unit g)) W ∧ Below w.heap.size w W ∧ Two (w.heap.size + 1) (w.heap.size + 1 + 1) w3 W)
    (fun _ _ _ => False)
    (OwnFrom.and (Own.from (hold_own _ _ _ _) _) (OwnFrom.and (ownFrom_below (Nat.le_refl _) (by omega)) (fun _ W W' row hs hg hr => hs.trans ⟨hg.block _ (twoLt hs.1 bL3) (fun e => by have := (hr _ e.symm).1; omega), hg.block _ (twoLt hs.2 bN3) (fun e => by have := (hr _ e.symm).1; omega)⟩)))
    (fun _ _ _ _ _ hs _ _ => hs)
    ⟨⟨fun _ => False, _, [], bS3, World.ownsRow_nil _ _ _ _, Elems.nil _ _, fun _ h => h.elim, fun _ h => h.elim, fun h => h, fun _ _ h => h⟩, B3, Two.refl _ _ _⟩
    (fun x => { tmps := #[.pointer (some ⟨bj, 0, none⟩), .slice (some ⟨b0, o0, none⟩) m c, undef, undef, .slice none 0 0, .pointer (some ⟨w.heap.size, 0, none⟩), chunkV b0 o0 m x.1, undef, .slice (some ⟨b0, o0, none⟩) m c, .func (.func 56) #[] #[.pointer (some ⟨w.heap.size + 1, 0, none⟩), .pointer (some ⟨w.heap.size + 1 + 1, 0, none⟩)], chunkV b0 o0 m x.1, undef, undef, undef, undef, undef, undef,
                undef, undef, undef, undef, undef, undef, undef, undef, undef, undef, undef, undef, undef, undef,
                undef, undef, undef, undef, undef, undef, undef], defers := [] }) ?assign ?body ?done ?stop
  case assign =>
    intro l x W K hK
    gi_wp2
    exact hK
  case body =>
    rintro l pre x W ⟨⟨U, v, L, hH⟩, hB, hTw⟩ hlen
    obtain ⟨x, hx⟩ := x
    have hP : Pats W (fun i => T i ∧ i < w.heap.size) (some ⟨b0, o0 + 15 * x * 3, none⟩) (ints (grp g x)) := ((HL.out.more fun i hi ht => ⟨ht, hi⟩).below hB).sub x
    have hgl : (grp g x).length = min 15 (m - 15 * x) := by rw [length_grp, Hm.out]
    have Hlist := Lib.hid (fun W' (hW' : Below W.heap.size W W') => listOf_any (grp g x) (fun i => T i ∧ i < w.heap.size) (some ⟨b0, o0 + 15 * x * 3, none⟩) (min 15 (m - 15 * x)) (min 15 (m - 15 * x)) W' (hP.below hW') hgl (by omega) (fun p hp => Hf.out p (grp_mem hp)))
    have hc := hH.box.cell
    have hf := hH.box.frozen
    have HH := Lib.hid hH
    have HP := Lib.hid hP
    have Hgl := Lib.hid hgl
    have HB := Lib.hid hB
    have hLl : Hid (L.length ≤ 200000) := by
      show _ ≤ _
      rw [hH.els.1]
      have h1 := length_units g (pre.map (·.1))
      rw [List.length_map] at h1
      omega
    have HT := Lib.hid hTw
    clear hP hgl hH hB hTw
    obtain ⟨e, he⟩ : ∃ e, e = min 15 (m - 15 * x) := ⟨_, rfl⟩
    have hch : chunkV b0 o0 m x = .slice (some ⟨b0, o0 + 15 * x * 3, none⟩) e e := by rw [he]; rfl
    rw [← he] at Hlist Hgl
    have he0 : 0 < e := by omega
    have he15 : e ≤ 15 := by omega
    clear he
    dsimp only
    rw [hch]
    have hd1 : 1 ≤ 5 - 1 - 1 := by omega
    have HbW := Lib.hid HH.out.box.lt
    have Hsz := Lib.hid HB.out.size
    gi_wp2
    refine wpIn_region_any hmx ?_
    change wpAnyIn _ _ _ _ _ _ _ _ _ (World.drew _)
    refine wpAnyIn_ready (rs := [0, 1]) (by kernel_rfl) (by simp) ?_
    refine AllReadyIn.cons (o := _) rfl (fun K hK => ?_) ?_
    · go_simp
      refine hK _ _ ?_
      clear hK K
      try simp only [Act.put, List.setIfInBounds_toArray, List.set_cons_zero, List.set_cons_succ]
      refine wpAnyIn_ready (rs := [1]) (by kernel_rfl) (by simp) ?_
      refine AllReadyIn.cons (o := _) rfl (fun K hK => ?_) ?_
      · go_simp
        refine hK _ _ ?_
        clear hK K
        try simp only [Act.put, List.setIfInBounds_toArray, List.set_cons_zero, List.set_cons_succ]
        refine wpAnyIn_ready (rs := [2]) (by kernel_rfl) (by simp) ?_
        refine AllReadyIn.cons (o := _) rfl (fun K hK => ?_) ?_
        · go_simp
          refine ⟨trivial, ?_⟩
          refine (CallsIn.inRound l (callsIn_wide.2 (Hlist.out _ ((Below.refl _ _).drew)))).mono ?_
          rintro e2 w4 ⟨v2, rfl, hM2⟩
          have hb4 := Lib.hid ((Below.refl _ W).drew.trans hM2.2)
          obtain ⟨g1, cc, rfl, hcc, hg1, hg1', hr1⟩ := made_slice hM2 (length_listB _) (by omega)
          have HR := Lib.hid hr1
          have hc4 := (hM2.2.cell (p := ⟨w.heap.size, 0, none⟩) HbW.out).trans hc
          have hc4b : (w4.alloc (.cells #[.int .i64 0, .slice (some ⟨g1, 0, none⟩) 64 cc, .int .u16 0] 49)).cell? ⟨w.heap.size, 0, none⟩ = some v := (World.cell?_alloc_lt _ _ _ (World.block_lt_of_cell? w4 _ hc4)).trans hc4
          clear hM2 hr1
          obtain ⟨U2, g2, cap2, w5, hrun, hc5, hf5, hH5, hK5, hB5, hX5⟩ := Held.list (HH.out.below (Below.refl _ _)) Hsz.out (Nat.le_refl _) hb4.out hg1 hg1' hcc HR.out (by have := hLl.out; omega)
          have Hrun := Lib.hid hrun
          have HH5 := Lib.hid hH5
          have HK5 := Lib.hid hK5
          have HB5 := Lib.hid hB5
          have HX5 := Lib.hid hX5
          clear hH5 hK5 hB5 hX5 hrun
          gi_wp2
          try simp only [Act.put, List.setIfInBounds_toArray, List.set_cons_zero, List.set_cons_succ]
          refine wpAnyIn_ready (rs := [3]) (by kernel_rfl) (by simp) ?_
          refine AllReadyIn.cons (o := _) rfl (fun K hK => ?_) ?_
          · go_simp
            refine hK _ _ ?_
            clear hK K
            try simp only [Act.put, List.setIfInBounds_toArray, List.set_cons_zero, List.set_cons_succ]
            refine wpAnyIn_ready (rs := [4]) (by kernel_rfl) (by simp) ?_
            refine AllReadyIn.cons (o := _) rfl (fun K hK => ?_) ?_
            · go_simp
              refine hK _ _ ?_
              clear hK K
              try simp only [Act.put, List.setIfInBounds_toArray, List.set_cons_zero, List.set_cons_succ]
              refine wpAnyIn_ready (rs := [5]) (by kernel_rfl) (by simp) ?_
              refine AllReadyIn.cons (o := _) rfl (fun K hK => ?_) ?_
              · refine stepIn_append_run rfl (.tmp 11) (.tmp 15) 45 rfl rfl rfl Hrun.out ?_
                simp only [Act.put, List.setIfInBounds_toArray]
                refine hK _ _ ?_
                clear hK K
                try simp only [Act.put, List.setIfInBounds_toArray, List.set_cons_zero, List.set_cons_succ]
                refine wpAnyIn_ready (rs := [6]) (by kernel_rfl) (by simp) ?_
                refine AllReadyIn.cons (o := _) rfl (fun K hK => ?_) ?_
                · go_simp
                  refine hK _ _ ?_
                  clear hK K
                  try simp only [Act.put, List.setIfInBounds_toArray, List.set_cons_zero, List.set_cons_succ]
                  refine wpAnyIn_done (by kernel_rfl) ?_ _
                  obtain ⟨W6, hW6⟩ : ∃ W6, W6 = w5.setCell ⟨w.heap.size, 0, none⟩ (.slice (some ⟨g2, 0, none⟩) (L.length + 1) cap2) := ⟨_, rfl⟩
                  rw [← hW6] at HH5 HK5 HB5 HX5 ⊢
                  clear hW6 hc4 hc4b hc5 hf5 Hrun hb4 HR
                  have hP6 : Pats W6 (fun i => T i ∧ i < w.heap.size) (some ⟨b0, o0 + 15 * x * 3, none⟩) (ints (grp g x)) := HP.out.keep HK5.out.size fun i hi _ => HB5.out.block i hi.2
                  have c6 := HH5.out.box.cell
                  have f6 := HH5.out.box.frozen
                  have hL6 : (L ++ [[Value.int .i64 0, .slice (some ⟨g1, 0, none⟩) 64 cc, .int .u16 0]]).length = L.length + 1 := by simp
                  obtain ⟨U7, M7, g7, cap7, w7, hM7, hrun7, hc7, hf7, hH7, hK7, hB7, hX7⟩ := HH5.out.group (by have := HK5.out.size; have := Hsz.out; omega) (Nat.le_refl _) hP6 e Hgl.out he0 e (by rw [hL6]; have := hLl.out; omega)
                  rw [hL6] at hrun7 hH7 hK7 hB7 hX7
                  have Hrun7 := Lib.hid hrun7
                  have HH7 := Lib.hid hH7
                  have HK7 := Lib.hid (HK5.out.trans hK7)
                  have HX7 := Lib.hid (HX5.out.trans hX7)
                  have HB7 := Lib.hid (HB5.out.trans hB7)
                  clear hP6 hL6 hH7 hK7 hB7 hX7 hM7 hrun7
                  gi_wp2_with (gi_at_builtin; refine wpListIn_append_run rfl (.tmp 17) (.tmp 18) 45 rfl rfl rfl Hrun7.out ?_)
                  refine ⟨HK7.out, ⟨HX7.out _ _ _ (by decide) (by omega) (HT.out.1.trans bL3), HX7.out _ _ _ (by decide) (by omega) (HT.out.2.trans bN3)⟩, ?_, HB.out.trans HB7.out, HT.out.trans ⟨HX7.out _ _ _ (by decide) (by omega) (HT.out.1.trans bL3), HX7.out _ _ _ (by decide) (by omega) (HT.out.2.trans bN3)⟩⟩
                  rw [units_snoc]
                  exact ⟨_, _, _, HH7.out⟩
                exact AllReadyIn.nil
              exact AllReadyIn.nil
            exact AllReadyIn.nil
          exact AllReadyIn.nil
        exact AllReadyIn.nil
      exact AllReadyIn.nil
    refine AllReadyIn.cons (o := _) rfl (fun K hK => ?_) ?_
    · go_simp
      refine hK _ _ ?_
      clear hK K
      try simp only [Act.put, List.setIfInBounds_toArray, List.set_cons_zero, List.set_cons_succ]
      refine wpAnyIn_ready (rs := [0, 2]) (by kernel_rfl) (by simp) ?_
      refine AllReadyIn.cons (o := _) rfl (fun K hK => ?_) ?_
      · go_simp
        refine hK _ _ ?_
        clear hK K
        try simp only [Act.put, List.setIfInBounds_toArray, List.set_cons_zero, List.set_cons_succ]
        refine wpAnyIn_ready (rs := [2]) (by kernel_rfl) (by simp) ?_
        refine AllReadyIn.cons (o := _) rfl (fun K hK => ?_) ?_
        · go_simp
          refine ⟨trivial, ?_⟩
          refine (CallsIn.inRound l (callsIn_wide.2 (Hlist.out _ ((Below.refl _ _).drew)))).mono ?_
          rintro e2 w4 ⟨v2, rfl, hM2⟩
          have hb4 := Lib.hid ((Below.refl _ W).drew.trans hM2.2)
          obtain ⟨g1, cc, rfl, hcc, hg1, hg1', hr1⟩ := made_slice hM2 (length_listB _) (by omega)
          have HR := Lib.hid hr1
          have hc4 := (hM2.2.cell (p := ⟨w.heap.size, 0, none⟩) HbW.out).trans hc
          have hc4b : (w4.alloc (.cells #[.int .i64 0, .slice (some ⟨g1, 0, none⟩) 64 cc, .int .u16 0] 49)).cell? ⟨w.heap.size, 0, none⟩ = some v := (World.cell?_alloc_lt _ _ _ (World.block_lt_of_cell? w4 _ hc4)).trans hc4
          clear hM2 hr1
          obtain ⟨U2, g2, cap2, w5, hrun, hc5, hf5, hH5, hK5, hB5, hX5⟩ := Held.list (HH.out.below (Below.refl _ _)) Hsz.out (Nat.le_refl _) hb4.out hg1 hg1' hcc HR.out (by have := hLl.out; omega)
          have Hrun := Lib.hid hrun
          have HH5 := Lib.hid hH5
          have HK5 := Lib.hid hK5
          have HB5 := Lib.hid hB5
          have HX5 := Lib.hid hX5
          clear hH5 hK5 hB5 hX5 hrun
          gi_wp2
          try simp only [Act.put, List.setIfInBounds_toArray, List.set_cons_zero, List.set_cons_succ]
          refine wpAnyIn_ready (rs := [3]) (by kernel_rfl) (by simp) ?_
          refine AllReadyIn.cons (o := _) rfl (fun K hK => ?_) ?_
          · go_simp
            refine hK _ _ ?_
            clear hK K
            try simp only [Act.put, List.setIfInBounds_toArray, List.set_cons_zero, List.set_cons_succ]
            refine wpAnyIn_ready (rs := [4]) (by kernel_rfl) (by simp) ?_
            refine AllReadyIn.cons (o := _) rfl (fun K hK => ?_) ?_
            · go_simp
              refine hK _ _ ?_
              clear hK K
              try simp only [Act.put, List.setIfInBounds_toArray, List.set_cons_zero, List.set_cons_succ]
              refine wpAnyIn_ready (rs := [5]) (by kernel_rfl) (by simp) ?_
              refine AllReadyIn.cons (o := _) rfl (fun K hK => ?_) ?_
              · refine stepIn_append_run rfl (.tmp 11) (.tmp 15) 45 rfl rfl rfl Hrun.out ?_
                simp only [Act.put, List.setIfInBounds_toArray]
                refine hK _ _ ?_
                clear hK K
                try simp only [Act.put, List.setIfInBounds_toArray, List.set_cons_zero, List.set_cons_succ]
                refine wpAnyIn_ready (rs := [6]) (by kernel_rfl) (by simp) ?_
                refine AllReadyIn.cons (o := _) rfl (fun K hK => ?_) ?_
                · go_simp
                  refine hK _ _ ?_
                  clear hK K
                  try simp only [Act.put, List.setIfInBounds_toArray, List.set_cons_zero, List.set_cons_succ]
                  refine wpAnyIn_done (by kernel_rfl) ?_ _
                  obtain ⟨W6, hW6⟩ : ∃ W6, W6 = w5.setCell ⟨w.heap.size, 0, none⟩ (.slice (some ⟨g2, 0, none⟩) (L.length + 1) cap2) := ⟨_, rfl⟩
                  rw [← hW6] at HH5 HK5 HB5 HX5 ⊢
                  clear hW6 hc4 hc4b hc5 hf5 Hrun hb4 HR
                  have hP6 : Pats W6 (fun i => T i ∧ i < w.heap.size) (some ⟨b0, o0 + 15 * x * 3, none⟩) (ints (grp g x)) := HP.out.keep HK5.out.size fun i hi _ => HB5.out.block i hi.2
                  have c6 := HH5.out.box.cell
                  have f6 := HH5.out.box.frozen
                  have hL6 : (L ++ [[Value.int .i64 0, .slice (some ⟨g1, 0, none⟩) 64 cc, .int .u16 0]]).length = L.length + 1 := by simp
                  obtain ⟨U7, M7, g7, cap7, w7, hM7, hrun7, hc7, hf7, hH7, hK7, hB7, hX7⟩ := HH5.out.group (by have := HK5.out.size; have := Hsz.out; omega) (Nat.le_refl _) hP6 e Hgl.out he0 e (by rw [hL6]; have := hLl.out; omega)
                  rw [hL6] at hrun7 hH7 hK7 hB7 hX7
                  have Hrun7 := Lib.hid hrun7
                  have HH7 := Lib.hid hH7
                  have HK7 := Lib.hid (HK5.out.trans hK7)
                  have HX7 := Lib.hid (HX5.out.trans hX7)
                  have HB7 := Lib.hid (HB5.out.trans hB7)
                  clear hP6 hL6 hH7 hK7 hB7 hX7 hM7 hrun7
                  gi_wp2_with (gi_at_builtin; refine wpListIn_append_run rfl (.tmp 17) (.tmp 18) 45 rfl rfl rfl Hrun7.out ?_)
                  refine ⟨HK7.out, ⟨HX7.out _ _ _ (by decide) (by omega) (HT.out.1.trans bL3), HX7.out _ _ _ (by decide) (by omega) (HT.out.2.trans bN3)⟩, ?_, HB.out.trans HB7.out, HT.out.trans ⟨HX7.out _ _ _ (by decide) (by omega) (HT.out.1.trans bL3), HX7.out _ _ _ (by decide) (by omega) (HT.out.2.trans bN3)⟩⟩
                  rw [units_snoc]
                  exact ⟨_, _, _, HH7.out⟩
                exact AllReadyIn.nil
              exact AllReadyIn.nil
            exact AllReadyIn.nil
          exact AllReadyIn.nil
        exact AllReadyIn.nil
      refine AllReadyIn.cons (o := _) rfl (fun K hK => ?_) ?_
      · go_simp
        refine ⟨trivial, ?_⟩
        refine (CallsIn.inRound l (callsIn_wide.2 (Hlist.out _ ((Below.refl _ _).drew)))).mono ?_
        rintro e2 w4 ⟨v2, rfl, hM2⟩
        have hb4 := Lib.hid ((Below.refl _ W).drew.trans hM2.2)
        obtain ⟨g1, cc, rfl, hcc, hg1, hg1', hr1⟩ := made_slice hM2 (length_listB _) (by omega)
        have HR := Lib.hid hr1
        have hc4 := (hM2.2.cell (p := ⟨w.heap.size, 0, none⟩) HbW.out).trans hc
        have hc4b : (w4.alloc (.cells #[.int .i64 0, .slice (some ⟨g1, 0, none⟩) 64 cc, .int .u16 0] 49)).cell? ⟨w.heap.size, 0, none⟩ = some v := (World.cell?_alloc_lt _ _ _ (World.block_lt_of_cell? w4 _ hc4)).trans hc4
        clear hM2 hr1
        obtain ⟨U2, g2, cap2, w5, hrun, hc5, hf5, hH5, hK5, hB5, hX5⟩ := Held.list (HH.out.below (Below.refl _ _)) Hsz.out (Nat.le_refl _) hb4.out hg1 hg1' hcc HR.out (by have := hLl.out; omega)
        have Hrun := Lib.hid hrun
        have HH5 := Lib.hid hH5
        have HK5 := Lib.hid hK5
        have HB5 := Lib.hid hB5
        have HX5 := Lib.hid hX5
        clear hH5 hK5 hB5 hX5 hrun
        gi_wp2
        try simp only [Act.put, List.setIfInBounds_toArray, List.set_cons_zero, List.set_cons_succ]
        refine wpAnyIn_ready (rs := [0, 3]) (by kernel_rfl) (by simp) ?_
        refine AllReadyIn.cons (o := _) rfl (fun K hK => ?_) ?_
        · go_simp
          refine hK _ _ ?_
          clear hK K
          try simp only [Act.put, List.setIfInBounds_toArray, List.set_cons_zero, List.set_cons_succ]
          refine wpAnyIn_ready (rs := [3]) (by kernel_rfl) (by simp) ?_
          refine AllReadyIn.cons (o := _) rfl (fun K hK => ?_) ?_
          · go_simp
            refine hK _ _ ?_
            clear hK K
            try simp only [Act.put, List.setIfInBounds_toArray, List.set_cons_zero, List.set_cons_succ]
            refine wpAnyIn_ready (rs := [4]) (by kernel_rfl) (by simp) ?_
            refine AllReadyIn.cons (o := _) rfl (fun K hK => ?_) ?_
            · go_simp
              refine hK _ _ ?_
              clear hK K
              try simp only [Act.put, List.setIfInBounds_toArray, List.set_cons_zero, List.set_cons_succ]
              refine wpAnyIn_ready (rs := [5]) (by kernel_rfl) (by simp) ?_
              refine AllReadyIn.cons (o := _) rfl (fun K hK => ?_) ?_
              · refine stepIn_append_run rfl (.tmp 11) (.tmp 15) 45 rfl rfl rfl Hrun.out ?_
                simp only [Act.put, List.setIfInBounds_toArray]
                refine hK _ _ ?_
                clear hK K
                try simp only [Act.put, List.setIfInBounds_toArray, List.set_cons_zero, List.set_cons_succ]
                refine wpAnyIn_ready (rs := [6]) (by kernel_rfl) (by simp) ?_
                refine AllReadyIn.cons (o := _) rfl (fun K hK => ?_) ?_
                · go_simp
                  refine hK _ _ ?_
                  clear hK K
                  try simp only [Act.put, List.setIfInBounds_toArray, List.set_cons_zero, List.set_cons_succ]
                  refine wpAnyIn_done (by kernel_rfl) ?_ _
                  obtain ⟨W6, hW6⟩ : ∃ W6, W6 = w5.setCell ⟨w.heap.size, 0, none⟩ (.slice (some ⟨g2, 0, none⟩) (L.length + 1) cap2) := ⟨_, rfl⟩
                  rw [← hW6] at HH5 HK5 HB5 HX5 ⊢
                  clear hW6 hc4 hc4b hc5 hf5 Hrun hb4 HR
                  have hP6 : Pats W6 (fun i => T i ∧ i < w.heap.size) (some ⟨b0, o0 + 15 * x * 3, none⟩) (ints (grp g x)) := HP.out.keep HK5.out.size fun i hi _ => HB5.out.block i hi.2
                  have c6 := HH5.out.box.cell
                  have f6 := HH5.out.box.frozen
                  have hL6 : (L ++ [[Value.int .i64 0, .slice (some ⟨g1, 0, none⟩) 64 cc, .int .u16 0]]).length = L.length + 1 := by simp
                  obtain ⟨U7, M7, g7, cap7, w7, hM7, hrun7, hc7, hf7, hH7, hK7, hB7, hX7⟩ := HH5.out.group (by have := HK5.out.size; have := Hsz.out; omega) (Nat.le_refl _) hP6 e Hgl.out he0 e (by rw [hL6]; have := hLl.out; omega)
                  rw [hL6] at hrun7 hH7 hK7 hB7 hX7
                  have Hrun7 := Lib.hid hrun7
                  have HH7 := Lib.hid hH7
                  have HK7 := Lib.hid (HK5.out.trans hK7)
                  have HX7 := Lib.hid (HX5.out.trans hX7)
                  have HB7 := Lib.hid (HB5.out.trans hB7)
                  clear hP6 hL6 hH7 hK7 hB7 hX7 hM7 hrun7
                  gi_wp2_with (gi_at_builtin; refine wpListIn_append_run rfl (.tmp 17) (.tmp 18) 45 rfl rfl rfl Hrun7.out ?_)
                  refine ⟨HK7.out, ⟨HX7.out _ _ _ (by decide) (by omega) (HT.out.1.trans bL3), HX7.out _ _ _ (by decide) (by omega) (HT.out.2.trans bN3)⟩, ?_, HB.out.trans HB7.out, HT.out.trans ⟨HX7.out _ _ _ (by decide) (by omega) (HT.out.1.trans bL3), HX7.out _ _ _ (by decide) (by omega) (HT.out.2.trans bN3)⟩⟩
                  rw [units_snoc]
                  exact ⟨_, _, _, HH7.out⟩
                exact AllReadyIn.nil
              exact AllReadyIn.nil
            exact AllReadyIn.nil
          exact AllReadyIn.nil
        refine AllReadyIn.cons (o := _) rfl (fun K hK => ?_) ?_
        · go_simp
          refine hK _ _ ?_
          clear hK K
          try simp only [Act.put, List.setIfInBounds_toArray, List.set_cons_zero, List.set_cons_succ]
          refine wpAnyIn_ready (rs := [0, 4]) (by kernel_rfl) (by simp) ?_
          refine AllReadyIn.cons (o := _) rfl (fun K hK => ?_) ?_
          · go_simp
            refine hK _ _ ?_
            clear hK K
            try simp only [Act.put, List.setIfInBounds_toArray, List.set_cons_zero, List.set_cons_succ]
            refine wpAnyIn_ready (rs := [4]) (by kernel_rfl) (by simp) ?_
            refine AllReadyIn.cons (o := _) rfl (fun K hK => ?_) ?_
            · go_simp
              refine hK _ _ ?_
              clear hK K
              try simp only [Act.put, List.setIfInBounds_toArray, List.set_cons_zero, List.set_cons_succ]
              refine wpAnyIn_ready (rs := [5]) (by kernel_rfl) (by simp) ?_
              refine AllReadyIn.cons (o := _) rfl (fun K hK => ?_) ?_
              · refine stepIn_append_run rfl (.tmp 11) (.tmp 15) 45 rfl rfl rfl Hrun.out ?_
                simp only [Act.put, List.setIfInBounds_toArray]
                refine hK _ _ ?_
                clear hK K
                try simp only [Act.put, List.setIfInBounds_toArray, List.set_cons_zero, List.set_cons_succ]
                refine wpAnyIn_ready (rs := [6]) (by kernel_rfl) (by simp) ?_
                refine AllReadyIn.cons (o := _) rfl (fun K hK => ?_) ?_
                · go_simp
                  refine hK _ _ ?_
                  clear hK K
                  try simp only [Act.put, List.setIfInBounds_toArray, List.set_cons_zero, List.set_cons_succ]
                  refine wpAnyIn_done (by kernel_rfl) ?_ _
                  obtain ⟨W6, hW6⟩ : ∃ W6, W6 = w5.setCell ⟨w.heap.size, 0, none⟩ (.slice (some ⟨g2, 0, none⟩) (L.length + 1) cap2) := ⟨_, rfl⟩
                  rw [← hW6] at HH5 HK5 HB5 HX5 ⊢
                  clear hW6 hc4 hc4b hc5 hf5 Hrun hb4 HR
                  have hP6 : Pats W6 (fun i => T i ∧ i < w.heap.size) (some ⟨b0, o0 + 15 * x * 3, none⟩) (ints (grp g x)) := HP.out.keep HK5.out.size fun i hi _ => HB5.out.block i hi.2
                  have c6 := HH5.out.box.cell
                  have f6 := HH5.out.box.frozen
                  have hL6 : (L ++ [[Value.int .i64 0, .slice (some ⟨g1, 0, none⟩) 64 cc, .int .u16 0]]).length = L.length + 1 := by simp
                  obtain ⟨U7, M7, g7, cap7, w7, hM7, hrun7, hc7, hf7, hH7, hK7, hB7, hX7⟩ := HH5.out.group (by have := HK5.out.size; have := Hsz.out; omega) (Nat.le_refl _) hP6 e Hgl.out he0 e (by rw [hL6]; have := hLl.out; omega)
                  rw [hL6] at hrun7 hH7 hK7 hB7 hX7
                  have Hrun7 := Lib.hid hrun7
                  have HH7 := Lib.hid hH7
                  have HK7 := Lib.hid (HK5.out.trans hK7)
                  have HX7 := Lib.hid (HX5.out.trans hX7)
                  have HB7 := Lib.hid (HB5.out.trans hB7)
                  clear hP6 hL6 hH7 hK7 hB7 hX7 hM7 hrun7
                  gi_wp2_with (gi_at_builtin; refine wpListIn_append_run rfl (.tmp 17) (.tmp 18) 45 rfl rfl rfl Hrun7.out ?_)
                  refine ⟨HK7.out, ⟨HX7.out _ _ _ (by decide) (by omega) (HT.out.1.trans bL3), HX7.out _ _ _ (by decide) (by omega) (HT.out.2.trans bN3)⟩, ?_, HB.out.trans HB7.out, HT.out.trans ⟨HX7.out _ _ _ (by decide) (by omega) (HT.out.1.trans bL3), HX7.out _ _ _ (by decide) (by omega) (HT.out.2.trans bN3)⟩⟩
                  rw [units_snoc]
                  exact ⟨_, _, _, HH7.out⟩
                exact AllReadyIn.nil
              exact AllReadyIn.nil
            exact AllReadyIn.nil
          refine AllReadyIn.cons (o := _) rfl (fun K hK => ?_) ?_
          · go_simp
            refine hK _ _ ?_
            clear hK K
            try simp only [Act.put, List.setIfInBounds_toArray, List.set_cons_zero, List.set_cons_succ]
            refine wpAnyIn_ready (rs := [0]) (by kernel_rfl) (by simp) ?_
            refine AllReadyIn.cons (o := _) rfl (fun K hK => ?_) ?_
            · go_simp
              refine hK _ _ ?_
              clear hK K
              try simp only [Act.put, List.setIfInBounds_toArray, List.set_cons_zero, List.set_cons_succ]
              refine wpAnyIn_ready (rs := [5]) (by kernel_rfl) (by simp) ?_
              refine AllReadyIn.cons (o := _) rfl (fun K hK => ?_) ?_
              · refine stepIn_append_run rfl (.tmp 11) (.tmp 15) 45 rfl rfl rfl Hrun.out ?_
                simp only [Act.put, List.setIfInBounds_toArray]
                refine hK _ _ ?_
                clear hK K
                try simp only [Act.put, List.setIfInBounds_toArray, List.set_cons_zero, List.set_cons_succ]
                refine wpAnyIn_ready (rs := [6]) (by kernel_rfl) (by simp) ?_
                refine AllReadyIn.cons (o := _) rfl (fun K hK => ?_) ?_
                · go_simp
                  refine hK _ _ ?_
                  clear hK K
                  try simp only [Act.put, List.setIfInBounds_toArray, List.set_cons_zero, List.set_cons_succ]
                  refine wpAnyIn_done (by kernel_rfl) ?_ _
                  obtain ⟨W6, hW6⟩ : ∃ W6, W6 = w5.setCell ⟨w.heap.size, 0, none⟩ (.slice (some ⟨g2, 0, none⟩) (L.length + 1) cap2) := ⟨_, rfl⟩
                  rw [← hW6] at HH5 HK5 HB5 HX5 ⊢
                  clear hW6 hc4 hc4b hc5 hf5 Hrun hb4 HR
                  have hP6 : Pats W6 (fun i => T i ∧ i < w.heap.size) (some ⟨b0, o0 + 15 * x * 3, none⟩) (ints (grp g x)) := HP.out.keep HK5.out.size fun i hi _ => HB5.out.block i hi.2
                  have c6 := HH5.out.box.cell
                  have f6 := HH5.out.box.frozen
                  have hL6 : (L ++ [[Value.int .i64 0, .slice (some ⟨g1, 0, none⟩) 64 cc, .int .u16 0]]).length = L.length + 1 := by simp
                  obtain ⟨U7, M7, g7, cap7, w7, hM7, hrun7, hc7, hf7, hH7, hK7, hB7, hX7⟩ := HH5.out.group (by have := HK5.out.size; have := Hsz.out; omega) (Nat.le_refl _) hP6 e Hgl.out he0 e (by rw [hL6]; have := hLl.out; omega)
                  rw [hL6] at hrun7 hH7 hK7 hB7 hX7
                  have Hrun7 := Lib.hid hrun7
                  have HH7 := Lib.hid hH7
                  have HK7 := Lib.hid (HK5.out.trans hK7)
                  have HX7 := Lib.hid (HX5.out.trans hX7)
                  have HB7 := Lib.hid (HB5.out.trans hB7)
                  clear hP6 hL6 hH7 hK7 hB7 hX7 hM7 hrun7
                  gi_wp2_with (gi_at_builtin; refine wpListIn_append_run rfl (.tmp 17) (.tmp 18) 45 rfl rfl rfl Hrun7.out ?_)
                  refine ⟨HK7.out, ⟨HX7.out _ _ _ (by decide) (by omega) (HT.out.1.trans bL3), HX7.out _ _ _ (by decide) (by omega) (HT.out.2.trans bN3)⟩, ?_, HB.out.trans HB7.out, HT.out.trans ⟨HX7.out _ _ _ (by decide) (by omega) (HT.out.1.trans bL3), HX7.out _ _ _ (by decide) (by omega) (HT.out.2.trans bN3)⟩⟩
                  rw [units_snoc]
                  exact ⟨_, _, _, HH7.out⟩
                exact AllReadyIn.nil
              exact AllReadyIn.nil
            exact AllReadyIn.nil
          exact AllReadyIn.nil
        exact AllReadyIn.nil
      exact AllReadyIn.nil
    exact AllReadyIn.nil
  case done =>
    rintro D ys W hD hys ⟨⟨U, v, L, hH⟩, hB, _⟩ hK
    have hCm : 0 < (m + 14) / 15 := by omega
    rw [hys, ← storedTo_units] at hH
    have hst : storedTo g ((m + 14) / 15) = stored g := by rw [stored, Hm.out]
    rw [hst] at hH
    have hMl : (stored g).length = m + (m + 14) / 15 := by rw [length_stored, Hm.out]
    have hlen := hH.els.1
    obtain ⟨M, hM⟩ : ∃ M, M = (stored g).length := ⟨_, rfl⟩
    rw [← hM] at hMl hlen
    obtain ⟨gs, cap, rfl, hgs1, hgs2⟩ := hH.own.form (by omega)
    have hcap : M ≤ cap := by
      rcases hH.own.2 with ⟨h1, _⟩ | ⟨g', cap', cur, h1, h2, h3, h4, _⟩
      · cases h1
      · cases h1; omega
    rw [hlen] at hH
    have hN := hH.numb hlen.symm start
    have hbox := hH.box
    have hc := hbox.cell
    have c1 := (hB.cell (p := ⟨bj, 1, none⟩) HJ.out.lt).trans (HJ.out.cell 1)
    have hbg : w.heap.size ≠ gs := fun e => hH.box.not_row (by decide) hH.own (by rw [e]; rfl)
    have hnU : ¬ U gs := hH.nown gs rfl
    have hfg : ∀ i, W.frozen? ⟨gs, i, none⟩ = false := fun i => by
      rcases hH.own.2 with ⟨h1, _⟩ | ⟨g', cap', cur, h1, _, h2, _⟩
      · cases h1
      · cases h1
        exact frozen_of_row W gs i cur 49 h2
    have hU := hH.ins
    have HU := Lib.hid (And.intro hH.ins hH.low)
    have Hlen := Lib.hid hlen
    have HM := Lib.hid hM
    clear hU
    have HMl := Lib.hid hMl
    have hM2 : M ≤ 200000 := by omega
    clear hbox hMl hCm
    have HB := Lib.hid hB
    have HN := Lib.hid hN
    have Hbox := Lib.hid hH.box
    have Hfg := Lib.hid hfg
    have HK := Lib.hid hK
    have HhU := Lib.hid hnU
    clear hB hN hH hfg hK hnU
    gi_wp2
    gi_loopw [7, 22] (fun _ i wr => ∃ j : Nat, j ≤ M ∧ i = .int .i64 (j : Int) ∧ Numb U gs start j (stored g) wr ∧ Below w.heap.size w wr ∧ Boxed wr w.heap.size 45 (.slice (some ⟨gs, 0, none⟩) M cap) ∧ (∀ i, wr.frozen? ⟨gs, i, none⟩ = false) ∧ wr.heap[D]? = some (.deferred (some [])))
      (fun _ i _ => M - (intOf i).toNat)
    case atStart => exact ⟨0, Nat.zero_le _, rfl, HN.out, HB.out, Hbox.out, Hfg.out, HK.out⟩
    case round =>
      obtain ⟨j, hj, rfl, hN, hB, hbx, hfz, hDD⟩ := hrel
      have A1 := Lib.hid hN
      have A2 := Lib.hid hB
      have A3 := Lib.hid hbx
      have A4 := Lib.hid hfz
      have A5 := Lib.hid hDD
      have cs := hbx.cell
      have cj := (hB.cell (p := ⟨bj, 1, none⟩) HJ.out.lt).trans (HJ.out.cell 1)
      by_cases hlt : j < M
      · obtain ⟨x, hx⟩ : ∃ x, (stored g)[j]? = some x := ⟨_, List.getElem?_eq_getElem (by rw [← HM.out]; exact hlt)⟩
        obtain ⟨s0, ba, oa, cp, _, _, _, c0, _, _, _, _⟩ := hN j x hx
        have fz := hfz (j * 3)
        have hw1 : IntKind.i64.wrap ((start : Int) + 1) = ((start + 1 : Nat) : Int) := by rw [IntKind.wrap_i64]; omega
        have hw2 : IntKind.i64.wrap (((start + 1 : Nat) : Int) + (j : Int)) = ((start + 1 + j : Nat) : Int) := by rw [IntKind.wrap_i64]; omega
        clear hN hB hbx hfz hDD hx
        gi_wp2
        gi_region
        all_goals gi_wp2
        all_goals go_roundw
        case rel =>
          refine ⟨j + 1, by omega, by go_num, A1.out.set (W := wr.drew) HhU.out _ rfl, ?_, ?_, ?_, ?_⟩
          · exact (A2.out.drew).setCell (p := ⟨gs, j * 3, none⟩) hgs1 _
          · exact (Below.heap_setCell wr.drew ⟨gs, j * 3, none⟩ _ w.heap.size hbg).trans A3.out
          · exact fun i => (World.frozen?_setCell wr _ _ _).trans (A4.out i)
          · exact (KeepsOthers.setCell wr.drew _ _).same D _ A5.out rfl
        case measure => simp [intOf]; omega
      · obtain rfl : j = M := by omega
        clear hN hB hbx hfz hDD
        gi_wp2
        refine ⟨by simp, .inl ⟨_, _, rfl, run_takeDeferred A5.out, ?_⟩⟩
        refine ⟨_, results_tmp rfl _ _ _, gs, cap, by rw [← HM.out]; rfl, by rw [← HM.out]; exact hcap, ?_, A2.out.trans (belowK_b (w := w) (Nat.le_refl _) wr D _ _ (by omega) A5.out rfl rfl)⟩
        intro k p hp
        rw [ints, List.getElem?_map, placed_get, Option.map_map, Option.map_eq_some_iff] at hp
        obtain ⟨x, hx, rfl⟩ := hp
        obtain ⟨s0, ba, oa, cp, u1, u2, u3, u4, u5, u6, u7, u8⟩ := A1.out k x hx
        have hk : k < j := by rw [HM.out]; exact (List.getElem?_eq_some_iff.1 hx).1
        have hgo : ∃ o : Obj, wr.heap[gs]? = some o ∧ o.isCells = true := cells_of_cell u4
        have hbo : ∃ o : Obj, wr.heap[ba]? = some o ∧ o.isCells = true := by
          have hb0 : (bytesV x.b)[0]? = some (byteV (x.b[0]'(by rw [x.hb]; omega))) := by
            rw [bytesV, List.getElem?_map, List.getElem?_eq_getElem (by rw [x.hb]; omega)]; rfl
          exact cells_of_cell (u8 0 _ hb0)
        have hgD : gs ≠ D := fun e => by obtain ⟨o, h1, h2⟩ := hgo; rw [e, A5.out] at h1; cases h1; cases h2
        have hbD : ba ≠ D := fun e => by obtain ⟨o, h1, h2⟩ := hbo; rw [e, A5.out] at h1; cases h1; cases h2
        have hcell : ∀ i, (wr.putObj D (.deferred none)).cell? ⟨gs, i, none⟩ = wr.cell? ⟨gs, i, none⟩ := fun i => World.cell?_of_block (a := ⟨gs, i, none⟩) (World.putObj_heap_other hgD)
        refine ⟨gs, 0, ba, oa, cp, rfl, .inr hgs1, ?_, by simp; exact (World.block_lt_of_cell? wr _ u4), by simpa using u2, u3, ?_, ?_, ?_, range_of_block u8 (World.putObj_heap_other hbD)⟩
        · rcases HU.out.1 ba u1 with h | h
          · exact .inl h.1
          · exact .inr h
        · rw [Nat.zero_add, hcell, u4, u5 hk]; rfl
        · rw [Nat.zero_add, hcell, u6]
        · rw [Nat.zero_add, hcell, u7]; rfl
  case stop =>
    rintro D c pre W _ _ h _
    exact h.elim
end
end Go.Proofs.Ytnkpmmijdkcdjaa
