/-
  What is known, while a call builds it: its four slices in a block, each row the call's own; what each store makes of it.
-/
import Derived.Test.YtcjkbmmjpkghlaaGreatQMetaN
import Derived.Test.YtcjkbmmjpkghlaaGreatQMetaL
namespace Go.Proofs.YtcjkbmmjpkghlaaGreat.Meta
open Go.Proofs.YtcjkbmmjpkghlaaGreat
open Go.RowKit

/-- Values written one behind the other. -/
def putL (xs : List Value) (o : Nat) : List Value → List Value
  | [] => xs
  | v :: vs => putL (xs.set o v) (o + 1) vs
theorem length_putL (vs : List Value) : ∀ (xs : List Value) (o : Nat), (putL xs o vs).length = xs.length := by
  induction vs with
  | nil => intro xs o; rfl
  | cons v vs ih => intro xs o; show (putL (xs.set o v) (o + 1) vs).length = _; rw [ih, List.length_set]
theorem putL_at (vs : List Value) : ∀ (xs : List Value) (o k : Nat), k < xs.length → (putL xs o vs)[k]? = if o ≤ k ∧ k < o + vs.length then vs[k - o]? else xs[k]? := by
  induction vs with
  | nil => intro xs o k hk; rw [if_neg (by simp)]; rfl
  | cons v vs ih =>
    intro xs o k hk
    show (putL (xs.set o v) (o + 1) vs)[k]? = _
    rw [ih _ _ _ (by rw [List.length_set]; exact hk), List.length_cons]
    by_cases h1 : o = k
    · subst h1
      rw [if_neg (by omega), if_pos (by omega), Nat.sub_self, List.getElem?_set_self hk]
      rfl
    · by_cases h2 : o + 1 ≤ k ∧ k < o + 1 + vs.length
      · rw [if_pos h2, if_pos (by omega), show k - o = k - (o + 1) + 1 by omega]
        rfl
      · rw [if_neg h2, if_neg (by omega), List.getElem?_set_ne h1]
theorem inosV_put {l : List Inode.Ino} {a : Nat} {n : Inode.Ino} (ho : ∀ m ∈ l, Inode.Oki m) (hn : Inode.Oki n) (h : a < l.length) : putL (inosV l) (a * 14) (Inode.cellsI n) = inosV (l.set a n) := by
  have hcn := Inode.length_cellsI hn
  have hos : ∀ m ∈ l.set a n, Inode.Oki m := fun m hm => by
    rcases List.mem_or_eq_of_mem_set hm with h | h
    · exact ho m h
    · rw [h]; exact hn
  have hlen : (inosV (l.set a n)).length = (inosV l).length := by rw [length_inosV hos, length_inosV ho, List.length_set]
  apply List.ext_getElem?
  intro k
  by_cases hk : k < (inosV l).length
  · have hk2 := hk
    rw [length_inosV ho] at hk2
    have hki : k / 14 < l.length := by omega
    have ek : k = k / 14 * 14 + k % 14 := by omega
    rw [putL_at _ _ _ _ hk, hcn]
    by_cases hin : a * 14 ≤ k ∧ k < a * 14 + 14
    · have e1 : k / 14 = a := by omega
      obtain ⟨u, hu⟩ : ∃ u, (Inode.cellsI n)[k % 14]? = some u := ⟨_, List.getElem?_eq_getElem (by rw [hcn]; omega)⟩
      have h3 := inosV_at hos (i := k / 14) (n := n) (by rw [e1, List.getElem?_set_self h]) hu
      rw [← ek] at h3
      rw [if_pos hin, h3, ← hu]
      congr 1
      omega
    · have e1 : a ≠ k / 14 := by omega
      obtain ⟨m, hm⟩ : ∃ m, l[k / 14]? = some m := ⟨_, List.getElem?_eq_getElem hki⟩
      have hcm := Inode.length_cellsI (ho m (List.mem_of_getElem? hm))
      obtain ⟨u, hu⟩ : ∃ u, (Inode.cellsI m)[k % 14]? = some u := ⟨_, List.getElem?_eq_getElem (by rw [hcm]; omega)⟩
      have h3 := inosV_at hos (i := k / 14) (n := m) (by rw [List.getElem?_set_ne e1]; exact hm) hu
      have h4 := inosV_at ho hm hu
      rw [← ek] at h3 h4
      rw [if_neg hin, h3, h4]
  · rw [List.getElem?_eq_none (by rw [length_putL]; omega), List.getElem?_eq_none (by omega)]
theorem stored_many {base g cap n k : Nat} {e : TypeId} (vs : List Value) : ∀ (w : World) (o : Nat) (xs : List Value), w.ownsRow base e k (.slice (some ⟨g, 0, none⟩) n cap) n xs →
    (w.setCells g o vs).ownsRow base e k (.slice (some ⟨g, 0, none⟩) n cap) n (putL xs o vs) ∧ w.grownBy (w.setCells g o vs) (some g) := by
  induction vs with
  | nil => intro w o xs h; exact ⟨h, World.grownBy.refl _ _⟩
  | cons v vs ih =>
    intro w o xs h
    obtain ⟨h1, h2⟩ := h.stored o v
    obtain ⟨h3, h4⟩ := ih _ (o + 1) _ h1
    exact ⟨h3, h2.trans h4⟩

/-- What is known, while it is built. -/
structure Sta (w : World) (M : Nat) (G : List Value) (x : Mem) (m : Met) (u : World) : Prop where
  geo : Bk u w.heap.size 29 G
  res : Bk u (w.heap.size + 1) 60 [.slice none 0 0, .slice none 0 0, .slice none 0 0, .slice none 0 0]
  cur : Bk u M 60 [.slice x.rA m.rows.length x.rc, .slice x.oA m.own.length x.oc, .slice x.uA m.used.length x.uc, .slice x.iA m.ino.length x.ic]
  own : OwnM u w.heap.size x m
  below : Below w.heap.size w u
  lt : w.heap.size + 1 < M
section
variable {w u u' : World} {M : Nat} {G : List Value} {x : Mem} {m : Met}
theorem Sta.later (h : Sta w M G x m u) (hb : Below u.heap.size u u') : Sta w M G x m u' :=
  ⟨h.geo.below hb h.geo.lt, h.res.below hb h.res.lt, h.cur.below hb h.cur.lt, h.own.below hb, h.below.trans (hb.mono h.below.size), h.lt⟩
theorem Sta.slot (h : Sta w M G x m u) (j : Nat) (v : Value) {x' : Mem} {m' : Met}
    (hc : [.slice x.rA m.rows.length x.rc, .slice x.oA m.own.length x.oc, .slice x.uA m.used.length x.uc, .slice x.iA m.ino.length x.ic].set j v = [.slice x'.rA m'.rows.length x'.rc, .slice x'.oA m'.own.length x'.oc, .slice x'.uA m'.used.length x'.uc, .slice x'.iA m'.ino.length x'.ic])
    (ho : OwnM u w.heap.size x' m') : Sta w M G x' m' (u.setCell ⟨M, j, none⟩ v) := by
  have hg : u.grownBy (u.setCell ⟨M, j, none⟩ v) (some M) := only_set (World.grownBy.refl _ _) j v
  have hM := h.lt
  have hcur := h.cur.set j v
  rw [hc] at hcur
  refine ⟨h.geo.grown hg (by simp; omega), h.res.grown hg (by simp; omega), hcur, ⟨?_, ?_, ?_, ?_⟩, h.below.setCell (by show w.heap.size ≤ M; omega) v, h.lt⟩
  · exact ho.rows.kept hg (.inr (Ne.symm (bk_ne h.cur ho.rows (by decide))))
  · exact ho.own.kept hg (.inr (Ne.symm (bk_ne h.cur ho.own (by decide))))
  · exact ho.used.kept hg (.inr (Ne.symm (bk_ne h.cur ho.used (by decide))))
  · exact ho.ino.kept hg (.inr (Ne.symm (bk_ne h.cur ho.ino (by decide))))
theorem Sta.owner (h : Sta w M G x m u) {g : Nat} (hx : x.oA = some ⟨g, 0, none⟩) (a : Nat) (v : Int) : Sta w M G x { m with own := m.own.set a v } (u.setCell ⟨g, a, none⟩ (.int .i64 v)) := by
  have ho := h.own.own
  rw [hx] at ho
  obtain ⟨h1, hg⟩ := ho.stored a (.int .i64 v)
  have hge := (ho.lt g rfl).1
  have e1 : (Inode.intsV m.own).set a (.int .i64 v) = Inode.intsV (m.own.set a v) := by unfold Inode.intsV; rw [List.map_set]
  refine ⟨h.geo.grown hg (bk_ne h.geo ho (by decide)), h.res.grown hg (bk_ne h.res ho (by decide)), ?_, ⟨?_, ?_, ?_, ?_⟩, h.below.setCell hge _, h.lt⟩
  · have := h.cur.grown hg (bk_ne h.cur ho (by decide))
    simpa using this
  · exact h.own.rows.kept hg (own_ne h.own.rows ho (by decide))
  · rw [e1] at h1
    rw [hx]
    simpa using h1
  · exact h.own.used.kept hg (own_ne h.own.used ho (by decide))
  · exact h.own.ino.kept hg (own_ne h.own.ino ho (by decide))
theorem Sta.inode (h : Sta w M G x m u) (hm : ∀ n ∈ m.ino, Inode.Oki n) {g : Nat} (hx : x.iA = some ⟨g, 0, none⟩) {a : Nat} (ha : a < m.ino.length) {n : Inode.Ino} (hn : Inode.Oki n) : Sta w M G x { m with ino := m.ino.set a n } (u.setCells g (a * 14) (Inode.cellsI n)) := by
  have ho := h.own.ino
  rw [hx] at ho
  obtain ⟨h1, hg⟩ := stored_many (Inode.cellsI n) u (a * 14) _ ho
  have hge := (ho.lt g rfl).1
  rw [inosV_put hm hn ha] at h1
  refine ⟨h.geo.grown hg (bk_ne h.geo ho (by decide)), h.res.grown hg (bk_ne h.res ho (by decide)), ?_, ⟨?_, ?_, ?_, ?_⟩, ?_, h.lt⟩
  · have := h.cur.grown hg (bk_ne h.cur ho (by decide))
    simpa using this
  · exact h.own.rows.kept hg (own_ne h.own.rows ho (by decide))
  · exact h.own.own.kept hg (own_ne h.own.own ho (by decide))
  · exact h.own.used.kept hg (own_ne h.own.used ho (by decide))
  · rw [hx]
    simpa using h1
  · exact h.below.grown hg h.below.size (fun k hk => by injection hk with hk; omega)
/-- Four cells written into a block just made. -/
theorem Sta.new (hG : Bk u w.heap.size 29 G) (hR : Bk u (w.heap.size + 1) 60 [.slice none 0 0, .slice none 0 0, .slice none 0 0, .slice none 0 0]) (ho : OwnM u w.heap.size x m) (hb : Below w.heap.size w u) (a0 a1 a2 a3 : Value) :
    Sta w u.heap.size G x m (((((u.alloc (.cells #[a0, a1, a2, a3] 60)).setCell ⟨u.heap.size, 0, none⟩ (.slice x.rA m.rows.length x.rc)).setCell ⟨u.heap.size, 1, none⟩ (.slice x.oA m.own.length x.oc)).setCell ⟨u.heap.size, 2, none⟩ (.slice x.uA m.used.length x.uc)).setCell ⟨u.heap.size, 3, none⟩ (.slice x.iA m.ino.length x.ic)) := by
  have hbb : Below u.heap.size u (((((u.alloc (.cells #[a0, a1, a2, a3] 60)).setCell ⟨u.heap.size, 0, none⟩ (.slice x.rA m.rows.length x.rc)).setCell ⟨u.heap.size, 1, none⟩ (.slice x.oA m.own.length x.oc)).setCell ⟨u.heap.size, 2, none⟩ (.slice x.uA m.used.length x.uc)).setCell ⟨u.heap.size, 3, none⟩ (.slice x.iA m.ino.length x.ic)) :=
    ((((al_below u _).setCell (Nat.le_refl _) _).setCell (Nat.le_refl _) _).setCell (Nat.le_refl _) _).setCell (Nat.le_refl _) _
  exact ⟨hG.below hbb hG.lt, hR.below hbb hR.lt, ((((Bk.new u 60 [a0, a1, a2, a3]).set 0 _).set 1 _).set 2 _).set 3 _, ho.below hbb, hb.trans (hbb.mono hb.size), hR.lt⟩
theorem Sta.made (hG : Bk u w.heap.size 29 G) (hR : Bk u (w.heap.size + 1) 60 [.slice none 0 0, .slice none 0 0, .slice none 0 0, .slice none 0 0]) (ho : OwnM u w.heap.size x m) (hb : Below w.heap.size w u) :
    Sta w u.heap.size G x m (u.alloc (.cells #[.slice x.rA m.rows.length x.rc, .slice x.oA m.own.length x.oc, .slice x.uA m.used.length x.uc, .slice x.iA m.ino.length x.ic] 60)) :=
  ⟨hG.below (al_below u _) hG.lt, hR.below (al_below u _) hR.lt, Bk.new u 60 _, ho.below (al_below u _), hb.trans ((al_below u _).mono hb.size), hR.lt⟩
end
theorem own_slice_any {w : World} {base : Nat} {e : TypeId} {v : Value} {n k : Nat} {xs : List Value} (h : w.ownsRow base e k v n xs) : ∃ A c, v = .slice A n c := by
  rcases h.2 with ⟨rfl, rfl⟩ | ⟨g, cap, cur, rfl, _⟩
  · exact ⟨none, 0, rfl⟩
  · exact ⟨_, cap, rfl⟩
theorem own_at {w : World} {base : Nat} {e : TypeId} {A : Option Addr} {n c k : Nat} {xs : List Value} (h : w.ownsRow base e k (.slice A n c) n xs) (hn : 0 < n) : ∃ g, A = some ⟨g, 0, none⟩ ∧ base ≤ g ∧ g < w.heap.size := by
  have hl := h.lt
  rcases h.2 with ⟨hv, rfl⟩ | ⟨g, cap, cur, hv, _⟩
  · exact absurd hn (by omega)
  · injection hv with h1 h2 h3
    subst h1
    exact ⟨g, rfl, hl g rfl⟩
theorem rd_u8 {w : World} {B b o : Nat} {l : List UInt8} (h : Rd w B (some ⟨b, o, none⟩) (bytesV l)) {i : Nat} {x : UInt8} (hi : l[i]? = some x) : w.cell? ⟨b, o + i, none⟩ = some (.int .u8 (x.toNat : Int)) := by
  have hg : (bytesV l)[i]? = some (.int .u8 (x.toNat : Int)) := by simp [bytesV, byteV, hi]
  rcases h with h | ⟨b', o', h1, _, h3⟩
  · rw [h] at hg; simp at hg
  · injection h1 with h1
    injection h1 with h1 h2 _
    subst h1 h2
    exact h3 i _ hg
theorem rd_cut {w : World} {B b o : Nat} {l : List UInt8} (h : Rd w B (some ⟨b, o, none⟩) (bytesV l)) (i k : Nat) : Rd w B (some ⟨b, o + i, none⟩) (bytesV ((l.drop i).take k)) := by
  rcases h with h | ⟨b', o', h1, h2, h3⟩
  · refine .inl ?_
    rw [bytesV_take, bytesV_drop, h]
    simp
  · injection h1 with h1
    injection h1 with h1 h4 _
    subst h1 h4
    refine .inr ⟨b, o + i, rfl, h2, fun j u hu => ?_⟩
    have hj : j < k := by
      have := (List.getElem?_eq_some_iff.1 hu).1
      rw [length_bytesV, List.length_take] at this
      omega
    rw [bytesV_take, bytesV_drop, List.getElem?_take, if_pos hj, List.getElem?_drop] at hu
    have := h3 (i + j) u hu
    rw [show o + i + j = o + (i + j) by omega]
    exact this
theorem cellsI_one (n : Inode.Ino) : ∀ u ∈ Inode.cellsI n, u.oneCell' = true := by
  intro u hu
  simp only [Inode.cellsI, List.mem_cons] at hu
  rcases hu with rfl | rfl | rfl | rfl | hu
  · rfl
  · rfl
  · rfl
  · rfl
  · exact Inode.intsV_one _ _ hu
theorem below_setCells {B g : Nat} (hg : B ≤ g) (vs : List Value) : ∀ {w u : World} (o : Nat), Below B w u → Below B w (u.setCells g o vs) := by
  induction vs with
  | nil => intro w u o h; exact h
  | cons v vs ih => intro w u o h; exact ih (o + 1) (h.setCell hg v)
theorem there_new (w : World) (xs : List Value) (e : TypeId) (n : Nat) (hn : xs.length = n) : (w.alloc (.cells xs.toArray e)).there w.heap.size 0 n := by
  intro j hj
  have hk := Bk.new w e xs
  refine ⟨?_, hk.frozen (0 + j)⟩
  rw [hk.cell (0 + j), List.getElem?_eq_getElem (by omega)]
  rfl
theorem there_own {w : World} {base g c n : Nat} {xs : List Value} {e : TypeId} (h : w.ownsRow base e 14 (.slice (some ⟨g, 0, none⟩) n c) n xs) {a : Nat} (ha : a < n) : w.there g (a * 14) 14 := by
  intro j hj
  have hk : a * 14 + j < n * 14 := by omega
  refine ⟨?_, h.frozenAt _⟩
  rw [h.cellAt _ hk, List.getElem?_eq_getElem (by rw [h.1]; exact hk)]
  rfl
/-- Owners so far, and those to come. -/
def ownP (l : List UInt8) (n a : Nat) : List Int := (l.take a).map (fun b => (b.toNat : Int)) ++ List.replicate (n - a) 0
theorem ownP_zero (l : List UInt8) (n : Nat) : ownP l n 0 = List.replicate n 0 := by simp [ownP]
theorem length_ownP {l : List UInt8} {n a : Nat} (ha : a ≤ n) (hl : a ≤ l.length) : (ownP l n a).length = n := by simp [ownP]; omega
theorem ownP_step {l : List UInt8} {n a : Nat} {y : UInt8} (ha : a < n) (hy : l[a]? = some y) : (ownP l n a).set a (y.toNat : Int) = ownP l n (a + 1) := by
  have hl := (List.getElem?_eq_some_iff.1 hy).1
  have h1 : ((l.take a).map (fun b => (b.toNat : Int))).length = a := by simp; omega
  unfold ownP
  rw [List.set_append_right _ _ (by rw [h1]; exact Nat.le_refl _), h1, Nat.sub_self, show n - a = n - (a + 1) + 1 by omega, List.replicate_succ, List.set_cons_zero, List.take_add_one, hy]
  simp
/-- Inodes so far, and those to come. -/
def inoP (f : Nat → Inode.Ino) (n a : Nat) : List Inode.Ino := (List.range a).map f ++ List.replicate (n - a) .z
theorem inoP_zero (f : Nat → Inode.Ino) (n : Nat) : inoP f n 0 = List.replicate n .z := by simp [inoP]
theorem length_inoP {f : Nat → Inode.Ino} {n a : Nat} (ha : a ≤ n) : (inoP f n a).length = n := by simp [inoP]; omega
theorem inoP_step {f : Nat → Inode.Ino} {n a : Nat} (ha : a < n) : (inoP f n a).set a (f a) = inoP f n (a + 1) := by
  have h1 : ((List.range a).map f).length = a := by simp
  unfold inoP
  rw [List.set_append_right _ _ (by rw [h1]; exact Nat.le_refl _), h1, Nat.sub_self, show n - a = n - (a + 1) + 1 by omega, List.replicate_succ, List.set_cons_zero, List.range_succ]
  simp
theorem inoP_oki {f : Nat → Inode.Ino} (hf : ∀ k, Inode.Oki (f k)) (n a : Nat) : ∀ m ∈ inoP f n a, Inode.Oki m := by
  intro m hm
  rcases List.mem_append.1 hm with h | h
  · obtain ⟨k, _, rfl⟩ := List.mem_map.1 h
    exact hf k
  · rw [List.eq_of_mem_replicate h]; exact .z
end Go.Proofs.YtcjkbmmjpkghlaaGreat.Meta
