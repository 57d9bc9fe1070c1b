/-
  Memory of one's own that is written into, and what is kept beside it.
-/
import Derived.Test.YtaflpigpeckhoaaQMetaU
import Derived.Test.YtaflpigpeckhoaaQMetaB
import Derived.Laws.BitsAllLaws
namespace Go.Proofs.Ytaflpigpeckhoaa
open Go.RowKit

namespace Meta
/-- The blocks from lo on and ahead of hi are as they were. -/
def Side (lo hi : Nat) (w w' : World) : Prop := ∀ k, lo ≤ k → k < hi → w'.heap[k]? = w.heap[k]?
theorem Side.refl (lo hi : Nat) (w : World) : Side lo hi w w := fun _ _ _ => rfl
theorem Side.trans {lo hi : Nat} {w u v : World} (h : Side lo hi w u) (k : Side lo hi u v) : Side lo hi w v := fun j h1 h2 => (k j h1 h2).trans (h j h1 h2)
theorem Side.below {lo hi B : Nat} {w u v : World} (h : Side lo hi w u) (hb : Below B u v) (hB : hi ≤ B) : Side lo hi w v := fun k h1 h2 => (hb.block k (by omega)).trans (h k h1 h2)
theorem Side.set {lo hi : Nat} {w u : World} (h : Side lo hi w u) (a : Addr) (v : Value) (hn : a.block < lo ∨ hi ≤ a.block) : Side lo hi w (u.setCell a v) := fun k h1 h2 => (Below.heap_setCell u a v k (by omega)).trans (h k h1 h2)
theorem Side.drewN {lo hi : Nat} {w u : World} (h : Side lo hi w u) (n : Nat) : Side lo hi w (u.drewN n) := h
theorem own_side {w w' : World} {base n k : Nat} {e : TypeId} {v : Value} {xs : List Value} (h : w.ownsRow base e k v n xs) (hs : Side base w.heap.size w w') : w'.ownsRow base e k v n xs := by
  refine ⟨h.1, ?_⟩
  rcases h.2 with h2 | ⟨g, cap, cur, h1, hb, hg, h3⟩
  · exact .inl h2
  · exact .inr ⟨g, cap, cur, h1, hb, by rw [hs g hb (h.lt g (by rw [h1]; rfl)).2]; exact hg, h3⟩
theorem OwnM.side {w w' : World} {base : Nat} {x : Mem} {m : Met} (h : OwnM w base x m) (hs : Side base w.heap.size w w') : OwnM w' base x m :=
  ⟨own_side h.rows hs, own_side h.own hs, own_side h.used hs, own_side h.ino hs⟩
theorem SecsOwn.side {w w' : World} {base : Nat} {v : Value} {L : List Sc} {l : List (List UInt8)} (h : SecsOwn w base v L l) (hs : Side base w.heap.size w w') : SecsOwn w' base v L l :=
  ⟨h.len, own_side h.row hs, fun i s b h1 h2 => own_side (h.each i s b h1 h2) hs⟩
/-- Sectors of which the lengths alone are told. -/
def Lots (u : World) (base : Nat) (v : Value) (L : List Sc) (l : List (List UInt8)) : Prop := ∃ l' : List (List UInt8), l'.map List.length = l.map List.length ∧ SecsOwn u base v L l'
theorem Lots.drewN {u : World} {base : Nat} {v : Value} {L : List Sc} {l : List (List UInt8)} (h : Lots u base v L l) (n : Nat) : Lots (u.drewN n) base v L l := by
  obtain ⟨l', h1, h2⟩ := h
  exact ⟨l', h1, h2.len, h2.row, h2.each⟩
theorem lots_of {u : World} {base : Nat} {v : Value} {L : List Sc} {l : List (List UInt8)} (h : SecsOwn u base v L l) : Lots u base v L l := ⟨l, rfl, h⟩
def over (L : List Sc) (l : List (List UInt8)) (g q : Nat) (y : UInt8) : List (List UInt8) := (L.zip l).map fun p => if p.1.A = some ⟨g, 0, none⟩ then p.2.set q y else p.2
theorem over_len {L : List Sc} {l : List (List UInt8)} (h : L.length = l.length) (g q : Nat) (y : UInt8) : (over L l g q y).length = l.length := by simp [over, h]
theorem over_at {L : List Sc} {l : List (List UInt8)} {g q : Nat} {y : UInt8} {i : Nat} {s : Sc} (hs : L[i]? = some s) : (over L l g q y)[i]? = l[i]?.map fun b => if s.A = some ⟨g, 0, none⟩ then b.set q y else b := by
  unfold over
  induction L generalizing l i with
  | nil => simp at hs
  | cons t L ih =>
    cases l with
    | nil => simp
    | cons b l =>
      cases i with
      | zero =>
        simp only [List.getElem?_cons_zero, Option.some.injEq] at hs
        subst hs
        simp
      | succ i =>
        simp only [List.getElem?_cons_succ] at hs
        simpa using ih hs
theorem over_secs (L : List Sc) (l : List (List UInt8)) (g q : Nat) (y : UInt8) : secsV L (over L l g q y) = secsV L l := by
  unfold secsV over
  induction L generalizing l with
  | nil => rfl
  | cons s L ih =>
    cases l with
    | nil => rfl
    | cons b l =>
      simp only [List.zip_cons_cons, List.map_cons]
      rw [ih]
      congr 1
      unfold secV
      simp only
      split <;> simp
theorem over_lens {L : List Sc} {l : List (List UInt8)} (h : L.length = l.length) (g q : Nat) (y : UInt8) : (over L l g q y).map List.length = l.map List.length := by
  unfold over
  induction L generalizing l with
  | nil => cases l with
    | nil => rfl
    | cons b l => simp at h
  | cons s L ih =>
    cases l with
    | nil => simp at h
    | cons b l =>
      simp only [List.zip_cons_cons, List.map_cons]
      rw [ih (by simpa using h)]
      congr 1
      split <;> simp
theorem bytes_set (b : List UInt8) (q : Nat) (y : UInt8) : (bytesV b).set q (.int .u8 (y.toNat : Int)) = bytesV (b.set q y) := byteV_set b q y
theorem Lots.stored {u : World} {base b2 g c n : Nat} {v : Value} {xs : List Value} {L : List Sc} {l : List (List UInt8)} (h : Lots u base v L l) (hg : u.ownsRow b2 5 1 (.slice (some ⟨g, 0, none⟩) n c) n xs) (q : Nat) (y : UInt8) :
    Lots (u.setCell ⟨g, q, none⟩ (.int .u8 (y.toNat : Int))) base v L l := by
  obtain ⟨l', hl, ho⟩ := h
  have hgr : u.grownBy (u.setCell ⟨g, q, none⟩ (.int .u8 (y.toNat : Int))) (some g) := only_set (World.grownBy.refl _ _) q _
  refine ⟨over L l' g q y, (over_lens ho.len g q y).trans hl, (by rw [over_len ho.len]; exact ho.len), ?_, fun i s b h1 h2 => ?_⟩
  · rw [over_secs, over_len ho.len]
    have := own_ne ho.row hg (by decide)
    exact ho.row.kept hgr this
  · rw [over_at h1] at h2
    obtain ⟨b0, hb0, hb⟩ := Option.map_eq_some_iff.1 h2
    have hs := ho.each i s b0 h1 hb0
    by_cases hA : s.A = some ⟨g, 0, none⟩
    · rw [if_pos hA] at hb
      subst hb
      rw [hA] at hs ⊢
      rw [List.length_set, ← bytes_set]
      exact (hs.stored q _).1
    · rw [if_neg hA] at hb
      subst hb
      refine hs.kept hgr ?_
      rcases hs.2 with ⟨he, _⟩ | ⟨g', cap, cur, he, _⟩
      · rw [he]; exact .inl rfl
      · right
        rw [he]
        intro hgg
        have : g' = g := by simpa [Value.ownBlock] using hgg
        injection he with he1
        exact hA (by rw [he1, this])
theorem Lots.get {u : World} {base : Nat} {A : Option Addr} {n c : Nat} {L : List Sc} {l : List (List UInt8)} (h : Lots u base (.slice A n c) L l) {i : Nat} (hi : i < l.length) :
    ∃ go s, A = some ⟨go, 0, none⟩ ∧ L[i]? = some s ∧ u.cell? ⟨go, i, none⟩ = some (.slice s.A (l.getD i []).length s.c) ∧ u.frozen? ⟨go, i, none⟩ = false ∧ ∃ b : List UInt8, b.length = (l.getD i []).length ∧ u.ownsRow base 5 1 (.slice s.A (l.getD i []).length s.c) (l.getD i []).length (bytesV b) := by
  obtain ⟨l', hl, ho⟩ := h
  have hll : l'.length = l.length := by simpa using congrArg List.length hl
  obtain ⟨s, hs⟩ : ∃ s, L[i]? = some s := ⟨_, List.getElem?_eq_getElem (by rw [ho.len, hll]; exact hi)⟩
  obtain ⟨b, hb⟩ : ∃ b, l'[i]? = some b := ⟨_, List.getElem?_eq_getElem (by rw [hll]; exact hi)⟩
  obtain ⟨hn, -, -, -⟩ := ho.at_
  have hrow := ho.row
  rw [← hn] at hrow
  obtain ⟨go, hgo, -, -⟩ := own_at hrow (by rw [hn, hll]; omega)
  subst hgo
  have hbl : b.length = (l.getD i []).length := by
    have h1 := congrArg (fun z : List Nat => z[i]?) hl
    simp only [List.getElem?_map, hb, List.getElem?_eq_getElem hi, Option.map_some, Option.some.injEq] at h1
    rw [h1, List.getD_eq_getElem?_getD, List.getElem?_eq_getElem hi]; rfl
  refine ⟨go, s, rfl, hs, ?_, hrow.frozenAt i, b, hbl, ?_⟩
  · rw [hrow.cellAt i (by omega), ← hbl]
    unfold secsV
    rw [List.getElem?_map, (List.getElem?_zip_eq_some (z := (s, b))).2 ⟨hs, hb⟩]
    rfl
  · rw [← hbl]; exact ho.each i s b hs hb
/-- What is known, in memory of its own, of which the lengths alone are told. -/
structure Crow (u : World) (b : Nat) (x : Mem) (r0 r1 r2 r3 : Nat) : Prop where
  rows : ∃ xs, u.ownsRow b 49 2 (.slice x.rA r0 x.rc) r0 xs
  own : ∃ xs, u.ownsRow b 3 1 (.slice x.oA r1 x.oc) r1 xs
  used : ∃ l : List UInt8, l.length = r2 ∧ u.ownsRow b 5 1 (.slice x.uA r2 x.uc) r2 (bytesV l)
  ino : ∃ xs, u.ownsRow b 52 14 (.slice x.iA r3 x.ic) r3 xs
section
variable {u : World} {b : Nat} {x : Mem} {r0 r1 r2 r3 : Nat}
theorem crow_of {m : Met} (h : OwnM u b x m) : Crow u b x m.rows.length m.own.length m.used.length m.ino.length := ⟨⟨_, h.rows⟩, ⟨_, h.own⟩, ⟨_, rfl, h.used⟩, ⟨_, h.ino⟩⟩
theorem Crow.below {u' : World} (h : Crow u b x r0 r1 r2 r3) (hb : Below u.heap.size u u') : Crow u' b x r0 r1 r2 r3 := by
  obtain ⟨⟨a0, h0⟩, ⟨a1, h1⟩, ⟨a2, hl, h2⟩, a3, h3⟩ := h
  exact ⟨⟨_, own_below h0 hb⟩, ⟨_, own_below h1 hb⟩, ⟨_, hl, own_below h2 hb⟩, ⟨_, own_below h3 hb⟩⟩
theorem Crow.drewN (h : Crow u b x r0 r1 r2 r3) (n : Nat) : Crow (u.drewN n) b x r0 r1 r2 r3 := ⟨h.rows, h.own, h.used, h.ino⟩
theorem Crow.row (h : Crow u b x r0 r1 r2 r3) {g : Nat} (hx : x.rA = some ⟨g, 0, none⟩) (j : Nat) (v : Value) : Crow (u.setCell ⟨g, j, none⟩ v) b x r0 r1 r2 r3 := by
  obtain ⟨⟨a0, h0⟩, ⟨a1, h1⟩, ⟨a2, hl, h2⟩, a3, h3⟩ := h
  rw [hx] at h0
  obtain ⟨k0, hg⟩ := h0.stored j v
  exact ⟨⟨_, by rw [hx]; exact k0⟩, ⟨_, h1.kept hg (own_ne h1 h0 (by decide))⟩, ⟨_, hl, h2.kept hg (own_ne h2 h0 (by decide))⟩, ⟨_, h3.kept hg (own_ne h3 h0 (by decide))⟩⟩
theorem Crow.owner (h : Crow u b x r0 r1 r2 r3) {g : Nat} (hx : x.oA = some ⟨g, 0, none⟩) (j : Nat) (v : Value) : Crow (u.setCell ⟨g, j, none⟩ v) b x r0 r1 r2 r3 := by
  obtain ⟨⟨a0, h0⟩, ⟨a1, h1⟩, ⟨a2, hl, h2⟩, a3, h3⟩ := h
  rw [hx] at h1
  obtain ⟨k1, hg⟩ := h1.stored j v
  exact ⟨⟨_, h0.kept hg (own_ne h0 h1 (by decide))⟩, ⟨_, by rw [hx]; exact k1⟩, ⟨_, hl, h2.kept hg (own_ne h2 h1 (by decide))⟩, ⟨_, h3.kept hg (own_ne h3 h1 (by decide))⟩⟩
theorem Crow.byte (h : Crow u b x r0 r1 r2 r3) {g : Nat} (hx : x.uA = some ⟨g, 0, none⟩) (j : Nat) (y : UInt8) : Crow (u.setCell ⟨g, j, none⟩ (.int .u8 (y.toNat : Int))) b x r0 r1 r2 r3 := by
  obtain ⟨⟨a0, h0⟩, ⟨a1, h1⟩, ⟨a2, hl, h2⟩, a3, h3⟩ := h
  rw [hx] at h2
  obtain ⟨k2, hg⟩ := h2.stored j (.int .u8 (y.toNat : Int))
  rw [bytes_set] at k2
  exact ⟨⟨_, h0.kept hg (own_ne h0 h2 (by decide))⟩, ⟨_, h1.kept hg (own_ne h1 h2 (by decide))⟩, ⟨a2.set j y, by rw [List.length_set]; exact hl, by rw [hx]; exact k2⟩, ⟨_, h3.kept hg (own_ne h3 h2 (by decide))⟩⟩
theorem Crow.inode (h : Crow u b x r0 r1 r2 r3) {g : Nat} (hx : x.iA = some ⟨g, 0, none⟩) (j : Nat) (v : Value) : Crow (u.setCell ⟨g, j, none⟩ v) b x r0 r1 r2 r3 := by
  obtain ⟨⟨a0, h0⟩, ⟨a1, h1⟩, ⟨a2, hl, h2⟩, a3, h3⟩ := h
  rw [hx] at h3
  obtain ⟨k3, hg⟩ := h3.stored j v
  exact ⟨⟨_, h0.kept hg (own_ne h0 h3 (by decide))⟩, ⟨_, h1.kept hg (own_ne h1 h3 (by decide))⟩, ⟨_, hl, h2.kept hg (own_ne h2 h3 (by decide))⟩, ⟨_, by rw [hx]; exact k3⟩⟩
end
/-- One cell of a row that is one's own. -/
theorem own_one {u : World} {b g n c k : Nat} {e : TypeId} {xs : List Value} (h : u.ownsRow b e k (.slice (some ⟨g, 0, none⟩) n c) n xs) (j : Nat) (hj : j < n * k) : (∃ v, u.cell? ⟨g, j, none⟩ = some v) ∧ u.frozen? ⟨g, j, none⟩ = false :=
  ⟨⟨xs[j]'(by rw [h.1]; exact hj), (h.cellAt j hj).trans (List.getElem?_eq_getElem (by rw [h.1]; exact hj))⟩, h.frozenAt j⟩
theorem xor_85 (y : UInt8) : bits .xor .u8 (y.toNat : Int) 85 = ((y ^^^ 85).toNat : Int) := by
  have := u8_xor_nat y.toNat 85 y.toNat_lt (by decide)
  rw [UInt8.toNat_xor]
  exact this
end Meta
end Go.Proofs.Ytaflpigpeckhoaa
