/-
  Memory of one's own that is written into, and what is kept beside it.
-/
import Derived.Test.YtcjkbmmjpkghlaaGreatQMetaU
import Derived.Test.YtcjkbmmjpkghlaaGreatQMetaB
import Derived.Laws.BitsAllLaws
import Derived.Test.YtcjkbmmjpkghlaaGreatQJrnB
namespace Go.Proofs.YtcjkbmmjpkghlaaGreat
open Go.RowKit

namespace Meta
/-- The blocks from lo on and ahead of hi are as they were. -/
def Side (lo hi : Nat) (w w' : World) : Prop := ∀ k, lo ≤ k → k < hi → w'.heap[k]? = w.heap[k]?
theorem Side.refl (lo hi : Nat) (w : World) : Side lo hi w w := fun _ _ _ => rfl
theorem Side.trans {lo hi : Nat} {w u v : World} (h : Side lo hi w u) (k : Side lo hi u v) : Side lo hi w v := fun j h1 h2 => (k j h1 h2).trans (h j h1 h2)
theorem Side.below {lo hi B : Nat} {w u v : World} (h : Side lo hi w u) (hb : Below B u v) (hB : hi ≤ B) : Side lo hi w v := fun k h1 h2 => (hb.block k (by omega)).trans (h k h1 h2)
theorem Side.set {lo hi : Nat} {w u : World} (h : Side lo hi w u) (a : Addr) (v : Value) (hn : a.block < lo ∨ hi ≤ a.block) : Side lo hi w (u.setCell a v) := fun k h1 h2 => (Below.heap_setCell u a v k (by omega)).trans (h k h1 h2)
theorem Side.drewN {lo hi : Nat} {w u : World} (h : Side lo hi w u) (n : Nat) : Side lo hi w (u.drewN n) := h
theorem own_side {w w' : World} {base n k : Nat} {e : TypeId} {v : Value} {xs : List Value} (h : w.ownsRow base e k v n xs) (hs : Side base w.heap.size w w') : w'.ownsRow base e k v n xs := by
  refine ⟨h.1, ?_⟩
  rcases h.2 with h2 | ⟨g, cap, cur, h1, hb, hg, h3⟩
  · exact .inl h2
  · exact .inr ⟨g, cap, cur, h1, hb, by rw [hs g hb (h.lt g (by rw [h1]; rfl)).2]; exact hg, h3⟩
theorem OwnM.side {w w' : World} {base : Nat} {x : Mem} {m : Met} (h : OwnM w base x m) (hs : Side base w.heap.size w w') : OwnM w' base x m :=
  ⟨own_side h.rows hs, own_side h.own hs, own_side h.used hs, own_side h.ino hs⟩
theorem SecsOwn.side {w w' : World} {base : Nat} {v : Value} {L : List Sc} {l : List (List UInt8)} (h : SecsOwn w base v L l) (hs : Side base w.heap.size w w') : SecsOwn w' base v L l :=
  ⟨h.len, own_side h.row hs, fun i s b h1 h2 => own_side (h.each i s b h1 h2) hs⟩
/-- Sectors of which the lengths alone are told. -/
def Lots (u : World) (base : Nat) (v : Value) (L : List Sc) (l : List (List UInt8)) : Prop := ∃ l' : List (List UInt8), l'.map List.length = l.map List.length ∧ SecsOwn u base v L l'
theorem Lots.drewN {u : World} {base : Nat} {v : Value} {L : List Sc} {l : List (List UInt8)} (h : Lots u base v L l) (n : Nat) : Lots (u.drewN n) base v L l := by
  obtain ⟨l', h1, h2⟩ := h
  exact ⟨l', h1, h2.len, h2.row, h2.each⟩
theorem lots_of {u : World} {base : Nat} {v : Value} {L : List Sc} {l : List (List UInt8)} (h : SecsOwn u base v L l) : Lots u base v L l := ⟨l, rfl, h⟩
def over (L : List Sc) (l : List (List UInt8)) (g q : Nat) (y : UInt8) : List (List UInt8) := (L.zip l).map fun p => if p.1.A = some ⟨g, 0, none⟩ then p.2.set q y else p.2
theorem over_len {L : List Sc} {l : List (List UInt8)} (h : L.length = l.length) (g q : Nat) (y : UInt8) : (over L l g q y).length = l.length := by simp [over, h]
theorem over_at {L : List Sc} {l : List (List UInt8)} {g q : Nat} {y : UInt8} {i : Nat} {s : Sc} (hs : L[i]? = some s) : (over L l g q y)[i]? = l[i]?.map fun b => if s.A = some ⟨g, 0, none⟩ then b.set q y else b := by
  unfold over
  induction L generalizing l i with
  | nil => simp at hs
  | cons t L ih =>
    cases l with
    | nil => simp
    | cons b l =>
      cases i with
      | zero =>
        simp only [List.getElem?_cons_zero, Option.some.injEq] at hs
        subst hs
        simp
      | succ i =>
        simp only [List.getElem?_cons_succ] at hs
        simpa using ih hs
theorem over_secs (L : List Sc) (l : List (List UInt8)) (g q : Nat) (y : UInt8) : secsV L (over L l g q y) = secsV L l := by
  unfold secsV over
  induction L generalizing l with
  | nil => rfl
  | cons s L ih =>
    cases l with
    | nil => rfl
    | cons b l =>
      simp only [List.zip_cons_cons, List.map_cons]
      rw [ih]
      congr 1
      unfold secV
      simp only
      split <;> simp
theorem over_lens {L : List Sc} {l : List (List UInt8)} (h : L.length = l.length) (g q : Nat) (y : UInt8) : (over L l g q y).map List.length = l.map List.length := by
  unfold over
  induction L generalizing l with
  | nil => cases l with
    | nil => rfl
    | cons b l => simp at h
  | cons s L ih =>
    cases l with
    | nil => simp at h
    | cons b l =>
      simp only [List.zip_cons_cons, List.map_cons]
      rw [ih (by simpa using h)]
      congr 1
      split <;> simp
theorem bytes_set (b : List UInt8) (q : Nat) (y : UInt8) : (bytesV b).set q (.int .u8 (y.toNat : Int)) = bytesV (b.set q y) := byteV_set b q y
theorem Lots.stored {u : World} {base b2 g c n : Nat} {v : Value} {xs : List Value} {L : List Sc} {l : List (List UInt8)} (h : Lots u base v L l) (hg : u.ownsRow b2 5 1 (.slice (some ⟨g, 0, none⟩) n c) n xs) (q : Nat) (y : UInt8) :
    Lots (u.setCell ⟨g, q, none⟩ (.int .u8 (y.toNat : Int))) base v L l := by
  obtain ⟨l', hl, ho⟩ := h
  have hgr : u.grownBy (u.setCell ⟨g, q, none⟩ (.int .u8 (y.toNat : Int))) (some g) := only_set (World.grownBy.refl _ _) q _
  refine ⟨over L l' g q y, (over_lens ho.len g q y).trans hl, (by rw [over_len ho.len]; exact ho.len), ?_, fun i s b h1 h2 => ?_⟩
  · rw [over_secs, over_len ho.len]
    have := own_ne ho.row hg (by decide)
    exact ho.row.kept hgr this
  · rw [over_at h1] at h2
    obtain ⟨b0, hb0, hb⟩ := Option.map_eq_some_iff.1 h2
    have hs := ho.each i s b0 h1 hb0
    by_cases hA : s.A = some ⟨g, 0, none⟩
    · rw [if_pos hA] at hb
      subst hb
      rw [hA] at hs ⊢
      rw [List.length_set, ← bytes_set]
      exact (hs.stored q _).1
    · rw [if_neg hA] at hb
      subst hb
      refine hs.kept hgr ?_
      rcases hs.2 with ⟨he, _⟩ | ⟨g', cap, cur, he, _⟩
      · rw [he]; exact .inl rfl
      · right
        rw [he]
        intro hgg
        have : g' = g := by simpa [Value.ownBlock] using hgg
        injection he with he1
        exact hA (by rw [he1, this])
theorem Lots.get {u : World} {base : Nat} {A : Option Addr} {n c : Nat} {L : List Sc} {l : List (List UInt8)} (h : Lots u base (.slice A n c) L l) {i : Nat} (hi : i < l.length) :
    ∃ go s, A = some ⟨go, 0, none⟩ ∧ L[i]? = some s ∧ u.cell? ⟨go, i, none⟩ = some (.slice s.A (l.getD i []).length s.c) ∧ u.frozen? ⟨go, i, none⟩ = false ∧ ∃ b : List UInt8, b.length = (l.getD i []).length ∧ u.ownsRow base 5 1 (.slice s.A (l.getD i []).length s.c) (l.getD i []).length (bytesV b) := by
  obtain ⟨l', hl, ho⟩ := h
  have hll : l'.length = l.length := by simpa using congrArg List.length hl
  obtain ⟨s, hs⟩ : ∃ s, L[i]? = some s := ⟨_, List.getElem?_eq_getElem (by rw [ho.len, hll]; exact hi)⟩
  obtain ⟨b, hb⟩ : ∃ b, l'[i]? = some b := ⟨_, List.getElem?_eq_getElem (by rw [hll]; exact hi)⟩
  obtain ⟨hn, -, -, -⟩ := ho.at_
  have hrow := ho.row
  rw [← hn] at hrow
  obtain ⟨go, hgo, -, -⟩ := own_at hrow (by rw [hn, hll]; omega)
  subst hgo
  have hbl : b.length = (l.getD i []).length := by
    have h1 := congrArg (fun z : List Nat => z[i]?) hl
    simp only [List.getElem?_map, hb, List.getElem?_eq_getElem hi, Option.map_some, Option.some.injEq] at h1
    rw [h1, List.getD_eq_getElem?_getD, List.getElem?_eq_getElem hi]; rfl
  refine ⟨go, s, rfl, hs, ?_, hrow.frozenAt i, b, hbl, ?_⟩
  · rw [hrow.cellAt i (by omega), ← hbl]
    unfold secsV
    rw [List.getElem?_map, (List.getElem?_zip_eq_some (z := (s, b))).2 ⟨hs, hb⟩]
    rfl
  · rw [← hbl]; exact ho.each i s b hs hb
/-- What is known, in memory of its own, of which the lengths alone are told. -/
structure Crow (u : World) (b : Nat) (x : Mem) (r0 r1 r2 r3 : Nat) : Prop where
  rows : ∃ xs, u.ownsRow b 68 2 (.slice x.rA r0 x.rc) r0 xs
  own : ∃ xs, u.ownsRow b 3 1 (.slice x.oA r1 x.oc) r1 xs
  used : ∃ l : List UInt8, l.length = r2 ∧ u.ownsRow b 5 1 (.slice x.uA r2 x.uc) r2 (bytesV l)
  ino : ∃ xs, u.ownsRow b 40 14 (.slice x.iA r3 x.ic) r3 xs
section
variable {u : World} {b : Nat} {x : Mem} {r0 r1 r2 r3 : Nat}
theorem crow_of {m : Met} (h : OwnM u b x m) : Crow u b x m.rows.length m.own.length m.used.length m.ino.length := ⟨⟨_, h.rows⟩, ⟨_, h.own⟩, ⟨_, rfl, h.used⟩, ⟨_, h.ino⟩⟩
theorem Crow.below {u' : World} (h : Crow u b x r0 r1 r2 r3) (hb : Below u.heap.size u u') : Crow u' b x r0 r1 r2 r3 := by
  obtain ⟨⟨a0, h0⟩, ⟨a1, h1⟩, ⟨a2, hl, h2⟩, a3, h3⟩ := h
  exact ⟨⟨_, own_below h0 hb⟩, ⟨_, own_below h1 hb⟩, ⟨_, hl, own_below h2 hb⟩, ⟨_, own_below h3 hb⟩⟩
theorem Crow.drewN (h : Crow u b x r0 r1 r2 r3) (n : Nat) : Crow (u.drewN n) b x r0 r1 r2 r3 := ⟨h.rows, h.own, h.used, h.ino⟩
theorem Crow.row (h : Crow u b x r0 r1 r2 r3) {g : Nat} (hx : x.rA = some ⟨g, 0, none⟩) (j : Nat) (v : Value) : Crow (u.setCell ⟨g, j, none⟩ v) b x r0 r1 r2 r3 := by
  obtain ⟨⟨a0, h0⟩, ⟨a1, h1⟩, ⟨a2, hl, h2⟩, a3, h3⟩ := h
  rw [hx] at h0
  obtain ⟨k0, hg⟩ := h0.stored j v
  exact ⟨⟨_, by rw [hx]; exact k0⟩, ⟨_, h1.kept hg (own_ne h1 h0 (by decide))⟩, ⟨_, hl, h2.kept hg (own_ne h2 h0 (by decide))⟩, ⟨_, h3.kept hg (own_ne h3 h0 (by decide))⟩⟩
theorem Crow.owner (h : Crow u b x r0 r1 r2 r3) {g : Nat} (hx : x.oA = some ⟨g, 0, none⟩) (j : Nat) (v : Value) : Crow (u.setCell ⟨g, j, none⟩ v) b x r0 r1 r2 r3 := by
  obtain ⟨⟨a0, h0⟩, ⟨a1, h1⟩, ⟨a2, hl, h2⟩, a3, h3⟩ := h
  rw [hx] at h1
  obtain ⟨k1, hg⟩ := h1.stored j v
  exact ⟨⟨_, h0.kept hg (own_ne h0 h1 (by decide))⟩, ⟨_, by rw [hx]; exact k1⟩, ⟨_, hl, h2.kept hg (own_ne h2 h1 (by decide))⟩, ⟨_, h3.kept hg (own_ne h3 h1 (by decide))⟩⟩
theorem Crow.byte (h : Crow u b x r0 r1 r2 r3) {g : Nat} (hx : x.uA = some ⟨g, 0, none⟩) (j : Nat) (y : UInt8) : Crow (u.setCell ⟨g, j, none⟩ (.int .u8 (y.toNat : Int))) b x r0 r1 r2 r3 := by
  obtain ⟨⟨a0, h0⟩, ⟨a1, h1⟩, ⟨a2, hl, h2⟩, a3, h3⟩ := h
  rw [hx] at h2
  obtain ⟨k2, hg⟩ := h2.stored j (.int .u8 (y.toNat : Int))
  rw [bytes_set] at k2
  exact ⟨⟨_, h0.kept hg (own_ne h0 h2 (by decide))⟩, ⟨_, h1.kept hg (own_ne h1 h2 (by decide))⟩, ⟨a2.set j y, by rw [List.length_set]; exact hl, by rw [hx]; exact k2⟩, ⟨_, h3.kept hg (own_ne h3 h2 (by decide))⟩⟩
theorem Crow.inode (h : Crow u b x r0 r1 r2 r3) {g : Nat} (hx : x.iA = some ⟨g, 0, none⟩) (j : Nat) (v : Value) : Crow (u.setCell ⟨g, j, none⟩ v) b x r0 r1 r2 r3 := by
  obtain ⟨⟨a0, h0⟩, ⟨a1, h1⟩, ⟨a2, hl, h2⟩, a3, h3⟩ := h
  rw [hx] at h3
  obtain ⟨k3, hg⟩ := h3.stored j v
  exact ⟨⟨_, h0.kept hg (own_ne h0 h3 (by decide))⟩, ⟨_, h1.kept hg (own_ne h1 h3 (by decide))⟩, ⟨_, hl, h2.kept hg (own_ne h2 h3 (by decide))⟩, ⟨_, by rw [hx]; exact k3⟩⟩
end
/-- One cell of a row that is one's own. -/
theorem own_one {u : World} {b g n c k : Nat} {e : TypeId} {xs : List Value} (h : u.ownsRow b e k (.slice (some ⟨g, 0, none⟩) n c) n xs) (j : Nat) (hj : j < n * k) : (∃ v, u.cell? ⟨g, j, none⟩ = some v) ∧ u.frozen? ⟨g, j, none⟩ = false :=
  ⟨⟨xs[j]'(by rw [h.1]; exact hj), (h.cellAt j hj).trans (List.getElem?_eq_getElem (by rw [h.1]; exact hj))⟩, h.frozenAt j⟩
theorem xor_85 (y : UInt8) : bits .xor .u8 (y.toNat : Int) 85 = ((y ^^^ 85).toNat : Int) := by
  have := u8_xor_nat y.toNat 85 y.toNat_lt (by decide)
  rw [UInt8.toNat_xor]
  exact this
end Meta
end Go.Proofs.YtcjkbmmjpkghlaaGreat

/-
  What a disk and a journal may change: blocks of four types. What is of another type is kept.
-/
namespace Go.Proofs.YtcjkbmmjpkghlaaGreat.Keep
open Go.RowKit Meta

/-- The types of a disk's blocks, and of a journal's. -/
def Bad (e : TypeId) : Prop := e = 126 ∨ e = 148 ∨ e = 188 ∨ e = 151
instance (e : TypeId) : Decidable (Bad e) := by unfold Bad; infer_instance
/-- But for blocks of those types all is as it was. -/
structure Good (w w' : World) : Prop where
  size : w.heap.size ≤ w'.heap.size
  block : ∀ (i : Nat) (c : Array Value) (e : TypeId), w.heap[i]? = some (.cells c e (0, 0)) → ¬ Bad e → w'.heap[i]? = w.heap[i]?
section
variable {w w1 w2 : World} {S : Nat → Prop} {b bj : Nat}
theorem Good.refl (w : World) : Good w w := ⟨Nat.le_refl _, fun _ _ _ _ _ => rfl⟩
theorem Good.trans (h : Good w w1) (k : Good w1 w2) : Good w w2 :=
  ⟨Nat.le_trans h.size k.size, fun i c e hi he => (k.block i c e ((h.block i c e hi he).trans hi) he).trans (h.block i c e hi he)⟩
theorem lt_heap {i : Nat} {o : Obj} (h : w.heap[i]? = some o) : i < w.heap.size := by
  rcases Nat.lt_or_ge i w.heap.size with hlt | hge
  · exact hlt
  · rw [Array.getElem?_eq_none hge] at h; cases h
theorem Good.of_below (h : Below w.heap.size w w1) : Good w w1 := ⟨h.size, fun i _ _ hi _ => h.block i (lt_heap hi)⟩
/-- The types of a disk's blocks. -/
theorem typed {α : Type} {f : α → List Value} {k : Dk α} (h : IsDisk f w S b k) {i : Nat} (hi : S i) : ∃ c e, w.heap[i]? = some (.cells c e (0, 0)) ∧ Bad e := by
  obtain ⟨bn, bs, cn, cs, vu, rfl, hm⟩ := h
  rcases hi with rfl | rfl | rfl | hi
  · exact ⟨_, _, hm.blk, .inl rfl⟩
  · obtain ⟨c, hc⟩ := hm.nowR.elemType
    exact ⟨_, _, hc, .inr (.inl rfl)⟩
  · obtain ⟨c, hc⟩ := hm.safeR.elemType
    exact ⟨_, _, hc, .inr (.inl rfl)⟩
  · rcases hm.unR with ⟨rfl, _⟩ | ⟨bu, cu, rfl, hr⟩
    · cases hi
    · obtain ⟨c, hc⟩ := hr.elemType
      cases hi
      exact ⟨_, _, hc, .inr (.inr (.inl rfl))⟩
theorem Good.of_kept {α : Type} {f : α → List Value} {k : Dk α} (h : IsDisk f w S b k) (hk : Kept S w w1) : Good w w1 :=
  ⟨hk.size, fun i _ _ hi he => hk.block i (lt_heap hi) fun hs => by
    obtain ⟨_, _, h1, h2⟩ := typed h hs
    rw [hi] at h1
    cases h1
    exact he h2⟩
theorem Good.of_jkept {α : Type} {f : α → List Value} {k : Dk α} (h : IsDisk f w S b k) {n0 n1 n2 : Nat} (hj : JB w bj b n0 n1 n2) (hk : Kept (fun i => S i ∨ i = bj) w w1) : Good w w1 :=
  ⟨hk.size, fun i _ _ hi he => hk.block i (lt_heap hi) fun hs => by
    rcases hs with hs | rfl
    · obtain ⟨_, _, h1, h2⟩ := typed h hs
      rw [hi] at h1
      cases h1
      exact he h2
    · have hj : w.heap[i]? = _ := hj
      rw [hi] at hj
      cases hj
      exact he (.inr (.inr (.inr rfl)))⟩
theorem Good.own {base n k : Nat} {e : TypeId} {v : Value} {xs : List Value} (hg : Good w w1) (h : w.ownsRow base e k v n xs) (he : ¬ Bad e := by decide) : w1.ownsRow base e k v n xs := by
  refine ⟨h.1, ?_⟩
  rcases h.2 with h2 | ⟨g, cap, cur, h1, hb, hc, h3⟩
  · exact .inl h2
  · exact .inr ⟨g, cap, cur, h1, hb, by rw [hg.block _ _ _ hc he]; exact hc, h3⟩
theorem Good.bk {g : Nat} {e : TypeId} {xs : List Value} (hg : Good w w1) (h : Bk w g e xs) (he : ¬ Bad e := by decide) : Bk w1 g e xs := (hg.block _ _ _ h he).trans h
theorem Good.met {base : Nat} {x : Meta.Mem} {m : Meta.Met} (hg : Good w w1) (h : OwnM w base x m) : OwnM w1 base x m := ⟨hg.own h.rows, hg.own h.own, hg.own h.used, hg.own h.ino⟩
theorem Good.secs {base : Nat} {v : Value} {L : List Sc} {l : List (List UInt8)} (hg : Good w w1) (h : SecsOwn w base v L l) : SecsOwn w1 base v L l :=
  ⟨h.len, hg.own h.row, fun i s b h1 h2 => hg.own (h.each i s b h1 h2)⟩

/-- A disk and a journal of it, in blocks from B on. -/
structure DJ (B : Nat) (w : World) (S : Nat → Prop) (bj b F n q : Nat) (k : Dk Sx) : Prop where
  disk : IsDisk sx w S b k
  jb : JB w bj b F n q
  off : ¬ S bj
  lo : ∀ i, S i → B ≤ i
  jlo : B ≤ bj
theorem DJ.below {B F n q : Nat} {k : Dk Sx} (h : DJ B w S bj b F n q k) (hb : Below w.heap.size w w1) : DJ B w1 S bj b F n q k :=
  ⟨h.disk.below hb, (hb.block bj h.jb.lt).trans h.jb, h.off, h.lo, h.jlo⟩
/-- A call of the journal's. -/
theorem DJ.turned {B F n q q' : Nat} {k k' : Dk Sx} (h : DJ B w S bj b F n q k) (ht : JTurned S w w1 bj b F n q' k') (hB : B ≤ w.heap.size) : (∃ S', DJ B w1 S' bj b F n q' k') ∧ Good w w1 ∧ Below B w w1 := by
  obtain ⟨hK, S', hD, hS, hJ, hb⟩ := ht
  refine ⟨⟨S', hD, hJ, hb, fun i hi => ?_, h.jlo⟩, Good.of_jkept h.disk h.jb hK, hK.below (fun i hi => ?_) hB⟩
  · rcases hS i hi with hs | hs
    · exact h.lo i hs
    · omega
  · rcases hi with hi | rfl
    · exact h.lo i hi
    · exact h.jlo
/-- A call of the disk's. -/
theorem DJ.turn {B F n q : Nat} {k k' : Dk Sx} (h : DJ B w S bj b F n q k) (ht : Turned sx S w w1 b k') (hB : B ≤ w.heap.size) : (∃ S', DJ B w1 S' bj b F n q k') ∧ Good w w1 ∧ Below B w w1 :=
  h.turned (JTurned.of h.jb h.off ht) hB
/-- A disk alone, in blocks from B on. -/
structure DO (B : Nat) (w : World) (S : Nat → Prop) (b : Nat) (k : Dk Sx) : Prop where
  disk : IsDisk sx w S b k
  lo : ∀ i, S i → B ≤ i
theorem DO.below {B : Nat} {k : Dk Sx} (h : DO B w S b k) (hb : Below w.heap.size w w1) : DO B w1 S b k := ⟨h.disk.below hb, h.lo⟩
theorem DO.turn {B : Nat} {k k' : Dk Sx} (h : DO B w S b k) (ht : Turned sx S w w1 b k') (hB : B ≤ w.heap.size) : (∃ S', DO B w1 S' b k') ∧ Good w w1 ∧ Below B w w1 := by
  obtain ⟨hK, S', hD, hS⟩ := ht
  refine ⟨⟨S', hD, fun i hi => ?_⟩, Good.of_kept h.disk hK, hK.below h.lo hB⟩
  rcases hS i hi with hs | hs
  · exact h.lo i hs
  · omega
theorem DJ.only {B F n q : Nat} {k : Dk Sx} (h : DJ B w S bj b F n q k) : DO B w S b k := ⟨h.disk, h.lo⟩
end
end Go.Proofs.YtcjkbmmjpkghlaaGreat.Keep

/-
  The journal's and the disk's calls, on paper: at rest, or fallen.
-/
namespace Go.Proofs.YtcjkbmmjpkghlaaGreat.Keep
open Go.RowKit Jrn

theorem room_of {n : Nat} {l : List (Nat × Sx)} (h : (stored l).length + 1 ≤ n) : l.length ≤ room n := by
  rw [length_stored] at h
  unfold room
  omega
theorem takes_of {F n T s : Nat} (h : Out F n s) (hs : s < T) : takesB T F n (s : Int) = true := by
  unfold takesB
  rcases h with h | h
  · simp; omega
  · simp; omega
theorem refuse_zero {F n T : Nat} {l : List (Nat × Sx)} (hr : (stored l).length + 1 ≤ n) (hv : Vals F n T l) : refuseE T F n (ints l) = 0 := by
  have hl := room_of hr
  unfold refuseE
  rw [if_neg (by rw [ints, List.length_map]; omega)]
  have : anyWrong T F n (ints l) = false := by
    rw [anyWrong, List.any_eq_false]
    intro p hp
    rw [ints, List.mem_map] at hp
    obtain ⟨p0, h0, rfl⟩ := hp
    obtain ⟨h1, h2⟩ := hv p0 h0
    show ¬ (!takesB T F n (p0.1 : Int)) = true
    rw [takes_of h1 h2]
    decide
  rw [this]
  rfl
section
variable {w : World} {S : Nat → Prop} {B b bj F n T q : Nat} {k : Dk Sx}
/-- A journal is opened, on a disk whose power stays on. -/
theorem jopen_any (hP : Plc F n T) (hn3 : 3 ≤ n) (hT : T ≤ 4096) (h : DO B w S b k) (hB : B ≤ w.heap.size) {l : List (Nat × Sx)} (hI : Img F n T k.safe q l) (hu : k.un = []) (hd : k.dead = false) (hc : k.cut = false) (hq : q < 18446744073709551616) :
    Calls Tryz.prog 61 #[.pointer (some ⟨b, 0, none⟩), .int .i64 (F : Int), .int .i64 (n : Int)] w fun e w' => ∃ (bj : Nat) (S' : Nat → Prop) (k' : Dk Sx), e = .returned (.tuple #[.pointer (some ⟨bj, 0, none⟩), .int .i64 (l.length : Int), .int .i64 0]) ∧
      DJ B w' S' bj b F n q k' ∧ Jrn.Rest F n T k' q ∧ vw F n k'.safe = vw F n (puts k.safe l) ∧ k'.cut = false ∧ Good w w' ∧ Below B w w' := by
  have hlo := hP.lo
  have hhi := hP.hi
  obtain ⟨c, hc1, hc2⟩ := hI.head
  have hlen := hI.len
  have hnow : k.now = k.safe := now_of_un hu
  refine (open_good h.disk hd (by omega) hn3 (by omega) (by omega) (by omega) (by rw [hu]; exact Nat.zero_le _) c (by rw [hnow]; exact hc1) q l l.length rfl hc2 (room_of hI.room) (by rw [hnow]; exact hI.loads) (fun p hp => by
    obtain ⟨h1, h2⟩ := hI.val p hp
    rw [hlen]
    exact takes_of h1 h2)).mono ?_
  rintro e w' ⟨v, rfl, hres⟩
  rcases opened_spec hP hI hu hd hq with ⟨f1, f2, f3, f4⟩ | ⟨f0, _⟩
  · rcases hres with ⟨-, bj, rfl, hbj, hK, S', hD, hS, hJ, hb⟩ | ⟨hne, -⟩
    · refine ⟨bj, S', _, rfl, ⟨hD, hJ, hb, fun i hi => ?_, by omega⟩, f2, f3, f4.trans hc, Good.of_kept h.disk hK, hK.below h.lo hB⟩
      rcases hS i hi with hs | hs
      · exact h.lo i hs
      · omega
    · exact absurd f1 hne
  · rw [hc] at f0; cases f0
/-- What a commit ends in. -/
def Done (F n T q : Nat) (k k' : Dk Sx) (l : List (Nat × Sx)) (q' : Nat) (e : Int) : Prop :=
  (e = 0 ∧ q' = q + 1 ∧ Jrn.Rest F n T k' (q + 1) ∧ vw F n k'.safe = vw F n (puts k.safe l) ∧ k'.cut = k.cut ∧ k'.safe = after F k.safe q l) ∨
  (k.cut = true ∧ e = 6 ∧ q' = q ∧ Fell F n T (q + 1) k' (fun V => V = vw F n k.safe ∨ V = vw F n (puts k.safe l)))
theorem dread_any (h : DO B w S b k) {s : Nat} {c : Sx} (hc : k.now[s]? = some c) (hd : k.dead = false) :
    Calls Tryz.prog 44 #[.pointer (some ⟨b, 0, none⟩), .int .i64 (s : Int)] w fun e w' => e = .returned (.tuple #[.slice (some ⟨w.heap.size, 0, none⟩) 64 64, .int .i64 0]) ∧ Bk w' w.heap.size 131 (bytesV c.b) ∧ Below w.heap.size w w' :=
  read_any w S b k h.disk s c (bytesV c.b) (.int .u16 (c.t : Int)) hc rfl (by rw [length_bytesV, c.hb]) (bytesV_one _) hd
/-- What a crash leaves can be opened. -/
theorem rest_fallen {N : Nat} (h : Jrn.Rest F n T k q) (hN : q ≤ N) (t : Nat) : ∃ q' l, Img F n T (k.crash t).safe q' l ∧ q' ≤ N ∧ vw F n (puts (k.crash t).safe l) = vw F n k.safe := h.safe hN t
theorem crash_on (k : Dk Sx) (t : Nat) : (k.crash t).un = [] ∧ (k.crash t).dead = false ∧ (k.crash t).cut = false := ⟨rfl, rfl, rfl⟩
end
end Go.Proofs.YtcjkbmmjpkghlaaGreat.Keep
