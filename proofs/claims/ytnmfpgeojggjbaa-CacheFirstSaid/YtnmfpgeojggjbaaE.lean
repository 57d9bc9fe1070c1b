/-
  A cache in memory: its own block, the map, the order of use, the slots; the cache and its disk together.
-/
import Derived.Test.YtnmfpgeojggjbaaK
import Derived.Test.YtnmfpgeojggjbaaS
import Derived.Test.YtnmfpgeojggjbaaW4
namespace Go.Proofs.Ytnmfpgeojggjbaa
open Go.RowKit

/-- A cached sector. -/
structure Sl where
  c : Nat
  tag : Nat
  dirty : Bool
  pins : Nat
def Sl.cells (x : Sl) : List Value := same x.c ++ [.int .u16 (x.tag : Int), .bool x.dirty, .int .i64 (x.pins : Int)]
theorem Sl.len (x : Sl) : x.cells.length = 67 := by simp [Sl.cells, same_length]
theorem Sl.get_low (x : Sl) {j : Nat} (hj : j < 64) : x.cells[j]? = some (.int .u8 (x.c : Int)) := by
  rw [Sl.cells, List.getElem?_append_left (by rw [same_length]; exact hj)]
  unfold same
  rw [List.getElem?_replicate, if_pos hj]
theorem Sl.get64 (x : Sl) : x.cells[64]? = some (.int .u16 (x.tag : Int)) := by
  rw [Sl.cells, List.getElem?_append_right (by rw [same_length]; exact Nat.le_refl _), same_length]; rfl
theorem Sl.get65 (x : Sl) : x.cells[65]? = some (.bool x.dirty) := by
  rw [Sl.cells, List.getElem?_append_right (by rw [same_length]; omega), same_length]; rfl
theorem Sl.get66 (x : Sl) : x.cells[66]? = some (.int .i64 (x.pins : Int)) := by
  rw [Sl.cells, List.getElem?_append_right (by rw [same_length]; omega), same_length]; rfl
theorem Sl.one (x : Sl) : ∀ u ∈ x.cells, u.oneCell' = true := by
  intro u hu
  simp only [Sl.cells, List.mem_append, List.mem_cons, List.not_mem_nil, or_false] at hu
  rcases hu with hu | rfl | rfl | rfl
  · exact same_one x.c u hu
  · rfl
  · rfl
  · rfl

/-- Where it lies. -/
structure En where
  s : Nat
  g : Nat
  x : Sl
def En.sg (e : En) : Nat × Nat := (e.s, e.g)
def En.sx (e : En) : Nat × Sl := (e.s, e.x)
def keyI (e : En) : Int := (e.s : Int)
theorem nodup_inj {α : Type} {l : List α} (h : l.Nodup) {i j : Nat} (hi : i < l.length) (hj : j < l.length) (e : l[i] = l[j]) : i = j := by
  have := List.pairwise_iff_getElem.1 h
  rcases Nat.lt_trichotomy i j with h1 | h1 | h1
  · exact absurd e (this i j hi hj h1)
  · exact h1
  · exact absurd e.symm (this j i hj hi h1)
/-- The block of a key. -/
def blkAt (K : List (Nat × Nat)) (k : Int) : Option Nat := (K.find? fun p => decide ((p.1 : Int) = k)).map (·.2)
def hasKey (K : List (Nat × Nat)) (k : Int) : Bool := K.any fun p => decide ((p.1 : Int) = k)

theorem hasKey_iff {K : List (Nat × Nat)} {k : Int} : hasKey K k = true ↔ ∃ p ∈ K, (p.1 : Int) = k := by simp [hasKey]
theorem blkAt_none {K : List (Nat × Nat)} {k : Int} (h : hasKey K k = false) : blkAt K k = none := by
  have : K.find? (fun p => decide ((p.1 : Int) = k)) = none := by
    rw [List.find?_eq_none]
    intro p hp hk
    have : hasKey K k = true := hasKey_iff.2 ⟨p, hp, by simpa using hk⟩
    rw [h] at this
    cases this
  simp [blkAt, this]
theorem blkAt_mem {K : List (Nat × Nat)} (hn : (K.map (·.1)).Nodup) {p : Nat × Nat} (hp : p ∈ K) : blkAt K (p.1 : Int) = some p.2 := by
  induction K with
  | nil => cases hp
  | cons q K ih =>
    simp only [List.map_cons, List.nodup_cons] at hn
    rcases List.mem_cons.1 hp with rfl | hp
    · simp [blkAt]
    · have hne : ¬ ((q.1 : Int) = (p.1 : Int)) := fun e => hn.1 (List.mem_map.2 ⟨p, hp, by omega⟩)
      have := ih hn.2 hp
      unfold blkAt at this ⊢
      rw [List.find?_cons, decide_eq_false hne]
      exact this
theorem blkAt_snoc (K : List (Nat × Nat)) (s g : Nat) (h : hasKey K (s : Int) = false) (k : Int) : blkAt (K ++ [(s, g)]) k = if k = (s : Int) then some g else blkAt K k := by
  by_cases hk : k = (s : Int)
  · subst hk
    have := blkAt_none h
    unfold blkAt at this ⊢
    rw [List.find?_append]
    simp only [Option.map_eq_none_iff] at this
    simp [this]
  · rw [if_neg hk]
    have hne : ¬ ((s : Int) = k) := fun e => hk e.symm
    unfold blkAt
    rw [List.find?_append]
    simp [hne]
theorem hasKey_snoc (K : List (Nat × Nat)) (s g : Nat) (k : Int) : hasKey (K ++ [(s, g)]) k = (k == (s : Int) || hasKey K k) := by
  have : decide ((s : Int) = k) = (k == (s : Int)) := by
    rw [Bool.eq_iff_iff]; simp; exact ⟨Eq.symm, Eq.symm⟩
  simp [hasKey, this, Bool.or_comm]
theorem mem_erase {K : List (Nat × Nat)} (hn : (K.map (·.1)).Nodup) {i : Nat} (hi : i < K.length) {p : Nat × Nat} : p ∈ K.eraseIdx i ↔ p ∈ K ∧ p.1 ≠ K[i].1 := by
  rw [List.mem_eraseIdx_iff_getElem?]
  constructor
  · rintro ⟨j, hj, hp⟩
    obtain ⟨hjl, rfl⟩ := List.getElem?_eq_some_iff.1 hp
    refine ⟨List.getElem_mem hjl, fun e => hj ?_⟩
    exact nodup_inj hn (by simpa using hjl) (by simpa using hi) (by simpa using e)
  · rintro ⟨hp, hne⟩
    obtain ⟨j, hjl, rfl⟩ := List.getElem_of_mem hp
    exact ⟨j, fun e => hne (by subst e; rfl), List.getElem?_eq_getElem hjl⟩
theorem nodup_erase {K : List (Nat × Nat)} (hn : (K.map (·.1)).Nodup) (i : Nat) : ((K.eraseIdx i).map (·.1)).Nodup := by
  exact (((List.eraseIdx_sublist K i).map (·.1)).nodup hn)
theorem hasKey_erase {K : List (Nat × Nat)} (hn : (K.map (·.1)).Nodup) {i : Nat} (hi : i < K.length) (k : Int) : hasKey (K.eraseIdx i) k = (k != (K[i].1 : Int) && hasKey K k) := by
  rw [Bool.eq_iff_iff, hasKey_iff]
  simp only [Bool.and_eq_true, bne_iff_ne, ne_eq, hasKey_iff]
  constructor
  · rintro ⟨p, hp, rfl⟩
    obtain ⟨h1, h2⟩ := (mem_erase hn hi).1 hp
    exact ⟨by omega, p, h1, rfl⟩
  · rintro ⟨h1, p, hp, rfl⟩
    exact ⟨p, (mem_erase hn hi).2 ⟨hp, by omega⟩, rfl⟩
theorem blkAt_erase {K : List (Nat × Nat)} (hn : (K.map (·.1)).Nodup) {i : Nat} (hi : i < K.length) (k : Int) : blkAt (K.eraseIdx i) k = if k = (K[i].1 : Int) then none else blkAt K k := by
  have hk := hasKey_erase hn hi k
  by_cases h : hasKey (K.eraseIdx i) k = true
  · obtain ⟨p, hp, rfl⟩ := hasKey_iff.1 h
    obtain ⟨h1, h2⟩ := (mem_erase hn hi).1 hp
    rw [blkAt_mem (nodup_erase hn i) hp, if_neg (by omega), blkAt_mem hn h1]
  · rw [Bool.not_eq_true] at h
    rw [blkAt_none h]
    split
    · rfl
    · rename_i hne
      rw [h] at hk
      have : (k != (K[i].1 : Int)) = true := by simpa using hne
      rw [this, Bool.true_and] at hk
      rw [blkAt_none hk.symm]

/-- The cache in memory, its order of use being O. -/
structure CMem (w : World) (b bd room bm : Nat) (vo : Value) (O : List Int) (E : List En) : Prop where
  blk : Bk w b 62 [.pointer (some ⟨bd, 0, none⟩), .int .i64 (room : Int), .map (some bm), vo]
  map : MapIs ptrR ptrD none w bm (blkAt (E.map En.sg)) (hasKey (E.map En.sg)) E.length
  ord : Ints w 0 vo O
  sl : ∀ e ∈ E, Bk w e.g 67 e.x.cells
  gs : (E.map (·.g)).Nodup
  ss : (E.map (·.s)).Nodup
def cfoot (b bm : Nat) (vo : Value) (G : List Nat) (i : Nat) : Prop := i = b ∨ i = bm ∨ vo.ownBlock = some i ∨ i ∈ G

section
variable {w w' : World} {b bd room bm : Nat} {vo : Value} {O : List Int} {E : List En}

theorem sg_nodup (h : (E.map (·.s)).Nodup) : ((E.map En.sg).map (·.1)).Nodup := by
  rw [List.map_map]
  exact h

theorem CMem.lt (h : CMem w b bd room bm vo O E) {i : Nat} (hi : cfoot b bm vo (E.map (·.g)) i) : i < w.heap.size := by
  rcases hi with rfl | rfl | hi | hi
  · exact h.blk.lt
  · exact h.map.lt
  · exact (h.ord.lt hi).1
  · obtain ⟨e, he, rfl⟩ := List.mem_map.1 hi
    exact (h.sl e he).lt
theorem CMem.keep (h : CMem w b bd room bm vo O E) (hk : ∀ i, cfoot b bm vo (E.map (·.g)) i → w'.heap[i]? = w.heap[i]?) : CMem w' b bd room bm vo O E :=
  ⟨(hk b (.inl rfl)).trans h.blk, h.map.keep (hk bm (.inr (.inl rfl))), h.ord.keep fun g hg => hk g (.inr (.inr (.inl hg))), fun e he => (hk e.g (.inr (.inr (.inr (List.mem_map.2 ⟨e, he, rfl⟩))))).trans (h.sl e he), h.gs, h.ss⟩

/-- What a block is. -/
theorem CMem.ne_map (h : CMem w b bd room bm vo O E) {i : Nat} {c : Array Value} {t : TypeId} (hi : w.heap[i]? = some (.cells c t (0, 0))) : i ≠ bm := by
  rintro rfl
  obtain ⟨es, clock, hm⟩ := h.map.isMap
  rw [hm] at hi
  cases hi
theorem CMem.b_bm (h : CMem w b bd room bm vo O E) : b ≠ bm := h.ne_map h.blk
theorem CMem.b_g (h : CMem w b bd room bm vo O E) {e : En} (he : e ∈ E) : e.g ≠ b := type_ne (h.sl e he) h.blk (by decide)
theorem CMem.bm_g (h : CMem w b bd room bm vo O E) {e : En} (he : e ∈ E) : e.g ≠ bm := h.ne_map (h.sl e he)
theorem CMem.o_b (h : CMem w b bd room bm vo O E) {i : Nat} (hi : vo.ownBlock = some i) : i ≠ b := by
  obtain ⟨_, _, cur, hc⟩ := h.ord.lt hi
  exact type_ne hc h.blk (by decide)
theorem CMem.o_bm (h : CMem w b bd room bm vo O E) {i : Nat} (hi : vo.ownBlock = some i) : i ≠ bm := by
  obtain ⟨_, _, cur, hc⟩ := h.ord.lt hi
  exact h.ne_map hc
theorem CMem.o_g (h : CMem w b bd room bm vo O E) {i : Nat} (hi : vo.ownBlock = some i) {e : En} (he : e ∈ E) : i ≠ e.g := by
  obtain ⟨_, _, cur, hc⟩ := h.ord.lt hi
  exact type_ne hc (h.sl e he) (by decide)

theorem CMem.c0 (h : CMem w b bd room bm vo O E) : w.cell? ⟨b, 0, none⟩ = some (.pointer (some ⟨bd, 0, none⟩)) := h.blk.cell 0
theorem CMem.c1 (h : CMem w b bd room bm vo O E) : w.cell? ⟨b, 1, none⟩ = some (.int .i64 (room : Int)) := h.blk.cell 1
theorem CMem.c2 (h : CMem w b bd room bm vo O E) : w.cell? ⟨b, 2, none⟩ = some (.map (some bm)) := h.blk.cell 2
theorem CMem.c3 (h : CMem w b bd room bm vo O E) : w.cell? ⟨b, 3, none⟩ = some vo := h.blk.cell 3
theorem CMem.look (h : CMem w b bd room bm vo O E) (s : Int) (hs : I64 s) : (Instr.lookup 60 (.map (some bm)) (.int .i64 s) false).run Try.prog w = .ok (ptrV (blkAt (E.map En.sg) s)) w := (h.map.look ptrE Try.underlying60 hs).1
theorem CMem.at_ (h : CMem w b bd room bm vo O E) {e : En} (he : e ∈ E) : blkAt (E.map En.sg) (e.s : Int) = some e.g := blkAt_mem (sg_nodup h.ss) (p := e.sg) (List.mem_map.2 ⟨e, he, rfl⟩)
theorem I64_nat {n : Nat} (h : n ≤ 4096) : I64 (n : Int) := by unfold I64; omega

/-- The order is another one. -/
theorem CMem.reorder (h : CMem w b bd room bm vo O E) {w1 : World} {vo' : Value} {O' : List Int} (hK : w.grownBy w1 vo.ownBlock) (hO : Ints w1 0 vo' O') :
    CMem (w1.setCell ⟨b, 3, none⟩ vo') b bd room bm vo' O' E := by
  have hb1 : Bk w1 b 62 [.pointer (some ⟨bd, 0, none⟩), .int .i64 (room : Int), .map (some bm), vo] := (hK.block b h.blk.lt fun e => h.o_b e.symm rfl).trans h.blk
  have hne : ∀ i, i ≠ b → (w1.setCell ⟨b, 3, none⟩ vo').heap[i]? = w1.heap[i]? := fun i hi => Below.heap_setCell _ _ _ _ hi
  have hob : ∀ i, vo'.ownBlock = some i → i ≠ b := fun i hi => by
    obtain ⟨_, _, cur, hc⟩ := hO.lt hi
    exact type_ne hc hb1 (by decide)
  refine ⟨hb1.set 3 vo', ?_, hO.keep fun g hg => hne g (hob g hg), fun e he => ?_, h.gs, h.ss⟩
  · exact h.map.keep ((hne bm h.b_bm.symm).trans (hK.block bm h.map.lt fun e => h.o_bm e.symm rfl))
  · exact ((hne e.g (h.b_g he)).trans (hK.block e.g (h.sl e he).lt fun e1 => h.o_g e1.symm he rfl)).trans (h.sl e he)

/-- A slot is another one. -/
theorem CMem.reslot (h : CMem w b bd room bm vo O E) {i : Nat} (hi : i < E.length) {x : Sl} (hK : w.grownBy w' (some (E[i]).g)) (hB : Bk w' (E[i]).g 67 x.cells) :
    CMem w' b bd room bm vo O (E.set i { E[i] with x := x }) := by
  have hm : (E.set i { E[i] with x := x }).map En.sg = E.map En.sg := by
    rw [List.map_set]
    exact List.ext_getElem? fun j => by
      rw [List.getElem?_set]
      split
      · rename_i e; subst e; simp [hi, En.sg]
      · rfl
  have hg : (E.set i { E[i] with x := x }).map (·.g) = E.map (·.g) := by
    have := congrArg (List.map Prod.snd) hm
    simpa [List.map_map, Function.comp_def, En.sg] using this
  have hs : (E.set i { E[i] with x := x }).map (·.s) = E.map (·.s) := by
    have := congrArg (List.map Prod.fst) hm
    simpa [List.map_map, Function.comp_def, En.sg] using this
  have he := List.getElem_mem hi
  have hk : ∀ j, j < w.heap.size → j ≠ (E[i]).g → w'.heap[j]? = w.heap[j]? := fun j hj hne => hK.block j hj fun e => hne (by injection e)
  refine ⟨(hk b h.blk.lt (h.b_g he).symm).trans h.blk, ?_, h.ord.keep fun g hg => hk g (h.ord.lt hg).1 (h.o_g hg he), fun e hm' => ?_, by rw [hg]; exact h.gs, by rw [hs]; exact h.ss⟩
  · rw [hm, List.length_set]
    exact h.map.keep (hk bm h.map.lt (h.bm_g he).symm)
  · obtain ⟨j, hj, rfl⟩ := List.getElem_of_mem hm'
    rw [List.getElem_set]
    split
    · exact hB
    · rename_i hne
      have hj' : j < E.length := by simpa using hj
      have := h.sl _ (List.getElem_mem hj')
      refine (hk _ this.lt fun e => hne ?_).trans this
      exact nodup_inj h.gs (by simpa using hi) (by simpa using hj') (by simpa using e.symm)

/-- A slot more. -/
theorem CMem.more (h : CMem w b bd room bm vo O E) {s g : Nat} {x : Sl} (hs : hasKey (E.map En.sg) (s : Int) = false) {w1 : World} (hg : w.heap.size ≤ g) (hb : Below w.heap.size w w1) (hB : Bk w1 g 67 x.cells)
    (hK : w1.grownBy w' (some bm)) (hM : MapIs ptrR ptrD none w' bm (fun k => if k = (s : Int) then some g else blkAt (E.map En.sg) k) (fun k => k == (s : Int) || hasKey (E.map En.sg) k) (if hasKey (E.map En.sg) (s : Int) then E.length else E.length + 1)) :
    CMem w' b bd room bm vo O (E ++ [⟨s, g, x⟩]) := by
  have hk : ∀ j, j < w.heap.size → j ≠ bm → w'.heap[j]? = w.heap[j]? := fun j hj hne => (hK.block j (Nat.lt_of_lt_of_le hj hb.size) fun e => hne (by injection e)).trans (hb.block j hj)
  have hgm : g ≠ bm := fun e => by have := h.map.lt; omega
  refine ⟨(hk b h.blk.lt h.b_bm).trans h.blk, ?_, h.ord.keep fun i hi => hk i (h.ord.lt hi).1 (h.o_bm hi), fun e he => ?_, ?_, ?_⟩
  · rw [List.map_append]
    refine hM.as (fun k => ?_) (fun k => ?_) ?_
    · exact (blkAt_snoc _ s g hs k).symm
    · exact (hasKey_snoc _ s g k).symm
    · rw [hs]; simp
  · rcases List.mem_append.1 he with he | he
    · exact (hk e.g (h.sl e he).lt (h.bm_g he)).trans (h.sl e he)
    · obtain rfl : e = ⟨s, g, x⟩ := by simpa using he
      exact (hK.block g hB.lt fun e => hgm (by injection e)).trans hB
  · rw [List.map_append, List.nodup_append]
    refine ⟨h.gs, by simp, fun a ha c hc => ?_⟩
    obtain ⟨e, he, rfl⟩ := List.mem_map.1 ha
    obtain rfl : c = g := by simpa using hc
    have := (h.sl e he).lt
    omega
  · rw [List.map_append, List.nodup_append]
    refine ⟨h.ss, by simp, fun a ha c hc => ?_⟩
    obtain ⟨e, he, rfl⟩ := List.mem_map.1 ha
    obtain rfl : c = s := by simpa using hc
    intro e1
    have : hasKey (E.map En.sg) (c : Int) = true := hasKey_iff.2 ⟨e.sg, List.mem_map.2 ⟨e, he, rfl⟩, by simp [En.sg, e1]⟩
    rw [hs] at this
    cases this

/-- A slot less. -/
theorem CMem.less (h : CMem w b bd room bm vo O E) {i : Nat} (hi : i < E.length) (hK : w.grownBy w' (some bm))
    (hM : MapIs ptrR ptrD none w' bm (fun k => if k = ((E[i]).s : Int) then none else blkAt (E.map En.sg) k) (fun k => k != ((E[i]).s : Int) && hasKey (E.map En.sg) k) (if hasKey (E.map En.sg) ((E[i]).s : Int) then E.length - 1 else E.length)) :
    CMem w' b bd room bm vo O (E.eraseIdx i) := by
  have hk : ∀ j, j < w.heap.size → j ≠ bm → w'.heap[j]? = w.heap[j]? := fun j hj hne => hK.block j hj fun e => hne (by injection e)
  have hsub := List.eraseIdx_sublist E i
  have hil : i < (E.map En.sg).length := by simpa using hi
  have hei : (E.map En.sg)[i].1 = (E[i]).s := by simp [En.sg]
  have hmap : (E.eraseIdx i).map En.sg = (E.map En.sg).eraseIdx i := by
    rw [Go.ChangeMaps.map_eraseIdx]
  refine ⟨(hk b h.blk.lt h.b_bm).trans h.blk, ?_, h.ord.keep fun i hi => hk i (h.ord.lt hi).1 (h.o_bm hi), fun e he => ?_, (hsub.map _).nodup h.gs, (hsub.map _).nodup h.ss⟩
  · rw [hmap]
    refine hM.as (fun k => ?_) (fun k => ?_) ?_
    · rw [blkAt_erase (sg_nodup h.ss) hil k, hei]
    · rw [hasKey_erase (sg_nodup h.ss) hil k, hei]
    · have : hasKey (E.map En.sg) ((E[i]).s : Int) = true := hasKey_iff.2 ⟨(E[i]).sg, List.mem_map.2 ⟨_, List.getElem_mem hi, rfl⟩, rfl⟩
      rw [this, if_pos rfl, List.length_eraseIdx_of_lt hi]
  · have he' := hsub.subset he
    exact (hk e.g (h.sl e he').lt (h.bm_g he')).trans (h.sl e he')
end

/-- The keys, as ints. -/
def keysI (L : List (Nat × Sl)) : List Int := L.map fun p => (p.1 : Int)

/-- There is a cache, its order of use being O. -/
def CM (w : World) (S : Nat → Prop) (b bd room : Nat) (O : List Int) (L : List (Nat × Sl)) : Prop :=
  ∃ bm vo E, S = cfoot b bm vo (E.map (·.g)) ∧ CMem w b bd room bm vo O E ∧ L = E.map En.sx

section
variable {w w' : World} {S : Nat → Prop} {b bd room : Nat} {O : List Int} {L : List (Nat × Sl)} {k : Dk Nat}
theorem CM.lt (h : CM w S b bd room O L) {i : Nat} (hi : S i) : i < w.heap.size := by
  obtain ⟨bm, vo, E, rfl, hm, _⟩ := h
  exact hm.lt hi
theorem CM.keep (h : CM w S b bd room O L) (hk : ∀ i, S i → w'.heap[i]? = w.heap[i]?) : CM w' S b bd room O L := by
  obtain ⟨bm, vo, E, rfl, hm, rfl⟩ := h
  exact ⟨bm, vo, E, rfl, hm.keep hk, rfl⟩
theorem CM.below (h : CM w S b bd room O L) (hb : Below w.heap.size w w') : CM w' S b bd room O L := h.keep fun _ hi => hb.block _ (h.lt hi)
theorem CM.nodup (h : CM w S b bd room O L) : (L.map (·.1)).Nodup := by
  obtain ⟨bm, vo, E, rfl, hm, rfl⟩ := h
  rw [List.map_map]
  exact hm.ss
theorem disk_type {T : Nat → Prop} (h : IsDisk sec w T bd k) {i : Nat} (hi : T i) : ∃ c t, w.heap[i]? = some (.cells c t (0, 0)) ∧ (t = 59 ∨ t = 71 ∨ t = 80) := by
  obtain ⟨bn, bs, cn, cs, vu, rfl, hm⟩ := h
  rcases hi with rfl | rfl | rfl | hi
  · exact ⟨_, 59, hm.blk, .inl rfl⟩
  · obtain ⟨c, hc⟩ := hm.nowR.elemType
    exact ⟨c, 71, hc, .inr (.inl rfl)⟩
  · obtain ⟨c, hc⟩ := hm.safeR.elemType
    exact ⟨c, 71, hc, .inr (.inl rfl)⟩
  · rcases hm.unR with ⟨rfl, _⟩ | ⟨bu, cu, rfl, hr⟩
    · cases hi
    · cases hi
      obtain ⟨c, hc⟩ := hr.elemType
      exact ⟨c, 80, hc, .inr (.inr rfl)⟩
/-- The cache's blocks are none of the disk's. -/
theorem CM.apart {T : Nat → Prop} (h : CM w S b bd room O L) (hd : IsDisk sec w T bd k) {i : Nat} (hi : S i) : ¬ T i := fun ht => by
  obtain ⟨c, t, hc, htt⟩ := disk_type hd ht
  obtain ⟨bm, vo, E, rfl, hm, rfl⟩ := h
  rcases hi with rfl | rfl | hi | hi
  · have := hm.blk
    exact type_ne this hc (by rcases htt with rfl | rfl | rfl <;> decide) rfl
  · exact hm.ne_map hc rfl
  · obtain ⟨_, _, cur, h2⟩ := hm.ord.lt hi
    exact type_ne h2 hc (by rcases htt with rfl | rfl | rfl <;> decide) rfl
  · obtain ⟨e, he, rfl⟩ := List.mem_map.1 hi
    exact type_ne (hm.sl e he) hc (by rcases htt with rfl | rfl | rfl <;> decide) rfl

/-- A cache and its disk. -/
def Both (w : World) (S : Nat → Prop) (b bd room : Nat) (O : List Int) (L : List (Nat × Sl)) (k : Dk Nat) : Prop :=
  ∃ Sc Sd, S = (fun i => Sc i ∨ Sd i) ∧ CM w Sc b bd room O L ∧ IsDisk sec w Sd bd k
theorem Both.lt (h : Both w S b bd room O L k) {i : Nat} (hi : S i) : i < w.heap.size := by
  obtain ⟨Sc, Sd, rfl, hc, hd⟩ := h
  exact hi.elim hc.lt hd.lt
theorem Both.keep (h : Both w S b bd room O L k) (hk : ∀ i, S i → w'.heap[i]? = w.heap[i]?) : Both w' S b bd room O L k := by
  obtain ⟨Sc, Sd, rfl, hc, hd⟩ := h
  exact ⟨Sc, Sd, rfl, hc.keep fun i hi => hk i (.inl hi), hd.keep fun i hi => hk i (.inr hi)⟩
theorem Both.below (h : Both w S b bd room O L k) (hb : Below w.heap.size w w') : Both w' S b bd room O L k := h.keep fun _ hi => hb.block _ (h.lt hi)
theorem Both.nodup (h : Both w S b bd room O L k) : (L.map (·.1)).Nodup := by
  obtain ⟨Sc, Sd, rfl, hc, hd⟩ := h
  exact hc.nodup

/-- What a call makes of both. -/
def BTurned (S : Nat → Prop) (w w' : World) (b bd room : Nat) (O : List Int) (L : List (Nat × Sl)) (k : Dk Nat) : Prop :=
  Kept S w w' ∧ ∃ S', Both w' S' b bd room O L k ∧ ∀ i, S' i → S i ∨ w.heap.size ≤ i
theorem Both.same (h : Both w S b bd room O L k) : BTurned S w w b bd room O L k := ⟨Kept.refl _ _, S, h, fun _ hi => .inl hi⟩
theorem Both.new (h : Both w S b bd room O L k) (hb : Below w.heap.size w w') : BTurned S w w' b bd room O L k := ⟨Kept.of_below hb, S, h.below hb, fun _ hi => .inl hi⟩
theorem BTurned.trans {S1 : Nat → Prop} {w1 w2 : World} (hK : Kept S w w1) (hS : ∀ i, S1 i → S i ∨ w.heap.size ≤ i) (h : BTurned S1 w1 w2 b bd room O L k) : BTurned S w w2 b bd room O L k := by
  obtain ⟨h1, S2, h2, h3⟩ := h
  refine ⟨hK.trans h1 hS, S2, h2, fun i hi => ?_⟩
  rcases h3 i hi with h | h
  · exact hS i h
  · exact .inr (Nat.le_trans hK.size h)
/-- A call on the disk alone. -/
theorem BTurned.disk {Sc Sd : Nat → Prop} {k' : Dk Nat} (hc : CM w Sc b bd room O L) (hd : IsDisk sec w Sd bd k) (ht : Turned sec Sd w w' bd k') : BTurned (fun i => Sc i ∨ Sd i) w w' b bd room O L k' := by
  obtain ⟨hK, S', hd', hS⟩ := ht
  refine ⟨⟨hK.os, hK.tape, hK.output, hK.size, fun i hi hn => hK.block i hi fun h => hn (.inr h)⟩, _, ⟨Sc, S', rfl, hc.keep fun i hi => hK.block i (hc.lt hi) (hc.apart hd hi), hd'⟩, fun i hi => ?_⟩
  rcases hi with hi | hi
  · exact .inl (.inl hi)
  · exact (hS i hi).imp .inr id
/-- A call on the cache alone. -/
theorem BTurned.cache {Sc Sd Sc' : Nat → Prop} {O' : List Int} {L' : List (Nat × Sl)} (hc : CM w Sc b bd room O L) (hd : IsDisk sec w Sd bd k) (hK : Kept Sc w w') (hc' : CM w' Sc' b bd room O' L') (hS : ∀ i, Sc' i → Sc i ∨ w.heap.size ≤ i) :
    BTurned (fun i => Sc i ∨ Sd i) w w' b bd room O' L' k := by
  refine ⟨⟨hK.os, hK.tape, hK.output, hK.size, fun i hi hn => hK.block i hi fun h => hn (.inl h)⟩, _, ⟨Sc', Sd, rfl, hc', hd.keep fun i hi => hK.block i (hd.lt hi) fun h => hc.apart hd h hi⟩, fun i hi => ?_⟩
  rcases hi with hi | hi
  · exact (hS i hi).imp .inl id
  · exact .inl (.inr hi)
end
end Go.Proofs.Ytnmfpgeojggjbaa
