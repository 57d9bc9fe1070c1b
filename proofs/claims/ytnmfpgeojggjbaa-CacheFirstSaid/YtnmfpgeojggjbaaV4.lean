/-
  Putting a sector into a cache.
-/
import Derived.Test.YtnmfpgeojggjbaaV3
namespace Go.Proofs.Ytnmfpgeojggjbaa
open Go.RowKit
attribute [local go_sem ↓] Go.wp_at_zero Go.wp_at_succ

section
variable {N : Nat} {w w' : World} {S : Nat → Prop} {b bd room bm : Nat} {vo : Value} {O : List Int} {L L1 L' : List (Nat × Sl)} {E E' : List En} {k k1 k' : Dk Nat}

/-- The slot of a sector, in whatever world the cache is the same. -/
theorem Both.slotW (h : Both w S b bd room O L k) {i s : Nat} {x : Sl} (hL : L[i]? = some (s, x)) (hs : s ≤ 4096) : ∃ bm g, S g ∧ (∀ W : World, (∀ j, S j → W.heap[j]? = w.heap[j]?) →
    (Instr.lookup 60 (.map (some bm)) (.int .i64 (s : Int)) false).run Try.prog W = .ok (.pointer (some ⟨g, 0, none⟩)) W ∧ W.cell? ⟨b, 2, none⟩ = some (.map (some bm)) ∧ Bk W g 67 x.cells ∧
    ∀ W' y, W.grownBy W' (some g) → Bk W' g 67 (Sl.cells y) → BTurned S W W' b bd room O (L.set i (s, y)) k) := by
  obtain ⟨Sc, Sd, rfl, ⟨bm, vo, E, rfl, hm, rfl⟩, hd⟩ := h
  obtain ⟨e, he, rfl, rfl⟩ := en_at hL
  have hmem := List.mem_of_getElem? he
  refine ⟨bm, e.g, .inl (.inr (.inr (.inr (List.mem_map.2 ⟨e, hmem, rfl⟩)))), fun W hW => ?_⟩
  have hmW := hm.keep (w' := W) fun j hj => hW j (.inl hj)
  have hdW := hd.keep (w' := W) fun j hj => hW j (.inr hj)
  have hlk := hmW.look (e.s : Int) (I64_nat hs)
  rw [hm.at_ hmem] at hlk
  exact ⟨hlk, hmW.c2, hmW.sl e hmem, fun W' y hK hB => BTurned.slot hmW hdW he hK hB⟩

theorem grown_setCells (W : World) (g o : Nat) (vs : List Value) (i : Nat) (u : Value) (j : Nat) (v : Value) : W.grownBy (((W.setCells g o vs).setCell ⟨g, i, none⟩ u).setCell ⟨g, j, none⟩ v) (some g) :=
  only_set (only_set (setCells_grown W g o vs) i u) j v
def setsL (xs : List Value) : Nat → List Value → List Value
  | _, [] => xs
  | o, v :: r => setsL (xs.set o v) (o + 1) r
theorem Bk.sets {g : Nat} {e : TypeId} : ∀ (vs : List Value) (o : Nat) (W : World) (xs : List Value), Bk W g e xs → Bk (W.setCells g o vs) g e (setsL xs o vs)
  | [], _, _, _, h => h
  | v :: r, o, W, xs, h => Bk.sets r (o + 1) (W.setCell ⟨g, o, none⟩ v) (xs.set o v) (h.set o v)
theorem setsL_replicate (a b : Value) (tl : List Value) : ∀ (n : Nat) (pre : List Value), setsL (pre ++ (List.replicate n a ++ tl)) pre.length (List.replicate n b) = pre ++ (List.replicate n b ++ tl)
  | 0, pre => rfl
  | n + 1, pre => by
    have h := setsL_replicate a b tl n (pre ++ [b])
    rw [List.replicate_succ, List.replicate_succ, setsL, List.cons_append, List.set_append_right _ _ (Nat.le_refl _), Nat.sub_self, List.set_cons_zero]
    simp only [List.length_append, List.length_cons, List.length_nil, Nat.zero_add, List.append_assoc, List.cons_append, List.nil_append] at h
    exact h
theorem slot_bytes {W : World} {g : Nat} {x : Sl} (h : Bk W g 67 x.cells) (c : Nat) : Bk (W.setCells g 0 (same c)) g 67 (Sl.cells { x with c := c }) := by
  have h1 := Bk.sets (same c) 0 W x.cells h
  have h2 := setsL_replicate (.int .u8 (x.c : Int)) (.int .u8 (c : Int)) [.int .u16 (x.tag : Int), .bool x.dirty, .int .i64 (x.pins : Int)] 64 []
  have e : setsL x.cells 0 (same c) = Sl.cells { x with c := c } := h2
  rw [e] at h1
  exact h1
theorem slot_there {W : World} {g : Nat} {x : Sl} (h : Bk W g 67 x.cells) : W.there g 0 64 := fun j hj => by
  rw [Nat.zero_add]
  exact ⟨by rw [h.cell j, Sl.get_low x hj]; rfl, h.frozen j⟩


/-- The world behind the first of three stores into a slot. -/
structure Stored (W0 W1 : World) (g pb gb s c : Nat) (x : Sl) : Prop where
  bk : Bk W1 g 67 (Sl.cells { x with c := c })
  grown1 : W0.grownBy W1 (some g)
  ne1 : gb ≠ g
  ne2 : g ≠ pb
  k0 : W1.cell? ⟨pb, 0, none⟩ = some (.int .i64 (s : Int))
  k1 : W1.cell? ⟨pb, 1, none⟩ = some (.slice (some ⟨gb, 0, none⟩) 64 64)
  k2 : W1.cell? ⟨pb, 2, none⟩ = some (.int .u16 (c : Int))
  k3 : W1.rangeAt gb 0 (same c)
theorem stored {W : World} {g pb gb s c : Nat} {x : Sl} (hB : Bk W g 67 x.cells) (h1 : gb ≠ g) (h2 : g ≠ pb) (p0 : W.cell? ⟨pb, 0, none⟩ = some (.int .i64 (s : Int))) (p1 : W.cell? ⟨pb, 1, none⟩ = some (.slice (some ⟨gb, 0, none⟩) 64 64)) (p2 : W.cell? ⟨pb, 2, none⟩ = some (.int .u16 (c : Int))) (p3 : W.rangeAt gb 0 (same c)) :
    Stored W (W.setCells g 0 (same c)) g pb gb s c x :=
  ⟨slot_bytes hB c, setCells_grown W g 0 _, h1, h2, (World.cell?_of_block (a := ⟨pb, 0, none⟩) (setCells_other g _ 0 W pb h2.symm)).trans p0, (World.cell?_of_block (a := ⟨pb, 1, none⟩) (setCells_other g _ 0 W pb h2.symm)).trans p1, (World.cell?_of_block (a := ⟨pb, 2, none⟩) (setCells_other g _ 0 W pb h2.symm)).trans p2, range_of_block p3 (setCells_other g _ 0 W gb h1)⟩
theorem Stored.c64 {W W1 : World} {g pb gb s c : Nat} {x : Sl} (h : Stored W W1 g pb gb s c x) : W1.cell? ⟨g, 64, none⟩ = some (.int .u16 (x.tag : Int)) := (h.bk.cell 64).trans (Sl.get64 _)
theorem Stored.c65 {W W1 : World} {g pb gb s c : Nat} {x : Sl} (h : Stored W W1 g pb gb s c x) : W1.cell? ⟨g, 65, none⟩ = some (.bool x.dirty) := (h.bk.cell 65).trans (Sl.get65 _)
theorem Stored.f64 {W W1 : World} {g pb gb s c : Nat} {x : Sl} (h : Stored W W1 g pb gb s c x) : W1.frozen? ⟨g, 64, none⟩ = false := h.bk.frozen 64
theorem Stored.f65 {W W1 : World} {g pb gb s c : Nat} {x : Sl} (h : Stored W W1 g pb gb s c x) : W1.frozen? ⟨g, 65, none⟩ = false := h.bk.frozen 65
theorem Stored.held {W W1 : World} {g pb gb s c : Nat} {x : Sl} (h : Stored W W1 g pb gb s c x) : (fun u : World => u.cell? ⟨pb, 1, none⟩ = some (.slice (some ⟨gb, 0, none⟩) 64 64) ∧ u.cell? ⟨pb, 2, none⟩ = some (.int .u16 (c : Int)) ∧ u.rangeAt gb 0 (same c)) W1 := ⟨h.k1, h.k2, h.k3⟩
theorem Stored.held1 {W W1 : World} {g pb gb s c : Nat} {x : Sl} (h : Stored W W1 g pb gb s c x) (i : Nat) (v : Value) : (fun u : World => u.cell? ⟨pb, 1, none⟩ = some (.slice (some ⟨gb, 0, none⟩) 64 64) ∧ u.cell? ⟨pb, 2, none⟩ = some (.int .u16 (c : Int)) ∧ u.rangeAt gb 0 (same c)) (W1.setCell ⟨g, i, none⟩ v) :=
  ⟨(World.cell?_of_block (a := ⟨pb, 1, none⟩) (Below.heap_setCell W1 ⟨g, i, none⟩ v pb h.ne2.symm)).trans h.k1, (World.cell?_of_block (a := ⟨pb, 2, none⟩) (Below.heap_setCell W1 ⟨g, i, none⟩ v pb h.ne2.symm)).trans h.k2, range_of_block h.k3 (Below.heap_setCell W1 ⟨g, i, none⟩ v gb h.ne1)⟩
theorem Stored.held2 {W W1 : World} {g pb gb s c : Nat} {x : Sl} (h : Stored W W1 g pb gb s c x) (i : Nat) (v : Value) (j : Nat) (u : Value) : (fun u : World => u.cell? ⟨pb, 1, none⟩ = some (.slice (some ⟨gb, 0, none⟩) 64 64) ∧ u.cell? ⟨pb, 2, none⟩ = some (.int .u16 (c : Int)) ∧ u.rangeAt gb 0 (same c)) ((W1.setCell ⟨g, i, none⟩ v).setCell ⟨g, j, none⟩ u) :=
  have k := h.held1 i v
  ⟨(World.cell?_of_block (a := ⟨pb, 1, none⟩) (Below.heap_setCell _ ⟨g, j, none⟩ u pb h.ne2.symm)).trans k.1, (World.cell?_of_block (a := ⟨pb, 2, none⟩) (Below.heap_setCell _ ⟨g, j, none⟩ u pb h.ne2.symm)).trans k.2.1, range_of_block k.2.2 (Below.heap_setCell _ ⟨g, j, none⟩ u gb h.ne1)⟩
theorem Stored.z0 {W W1 : World} {g pb gb s c : Nat} {x : Sl} (h : Stored W W1 g pb gb s c x) : ((W1.setCell ⟨g, 64, none⟩ (.int .u16 (c : Int))).setCell ⟨g, 65, none⟩ (.bool true)).cell? ⟨pb, 0, none⟩ = some (.int .i64 (s : Int)) :=
  ((World.cell?_of_block (a := ⟨pb, 0, none⟩) (Below.heap_setCell _ ⟨g, 65, none⟩ _ pb h.ne2.symm)).trans (World.cell?_of_block (a := ⟨pb, 0, none⟩) (Below.heap_setCell W1 ⟨g, 64, none⟩ _ pb h.ne2.symm))).trans h.k0
theorem Stored.fin {W W1 : World} {g pb gb s c : Nat} {x : Sl} (h : Stored W W1 g pb gb s c x) : Bk ((W1.setCell ⟨g, 64, none⟩ (.int .u16 (c : Int))).setCell ⟨g, 65, none⟩ (.bool true)) g 67 (Sl.cells { x with c := c, tag := c, dirty := true }) := by
  have := (h.bk.set 64 (.int .u16 (c : Int))).set 65 (.bool true)
  rw [Sl.set64, Sl.set65] at this
  exact this
theorem Stored.grown {W W1 : World} {g pb gb s c : Nat} {x : Sl} (h : Stored W W1 g pb gb s c x) : W.grownBy ((W1.setCell ⟨g, 64, none⟩ (.int .u16 (c : Int))).setCell ⟨g, 65, none⟩ (.bool true)) (some g) := only_set (only_set h.grown1 64 _) 65 _

/-- A slot more, of both. -/
theorem Both.moreW (h : Both w S b bd room O L k) {s : Nat} (hno : ∀ p ∈ L, p.1 ≠ s) (hlen : L.length ≤ 1000000) : ∃ bm, w.cell? ⟨b, 2, none⟩ = some (.map (some bm)) ∧ S bm ∧ b ≠ bm ∧ (∀ (W1 : World) (g : Nat) (x : Sl), Below w.heap.size w W1 → Bk W1 g 67 x.cells → w.heap.size ≤ g →
    ∃ (at_ : Int → Option Nat) (there : Int → Bool) (m : Nat), MapIs ptrR ptrD none W1 bm at_ there m ∧ m < maxLen ∧ ∀ W2, MapIs ptrR ptrD none W2 bm (fun k => if k = (s : Int) then some g else at_ k) (fun k => k == (s : Int) || there k) (if there (s : Int) then m else m + 1) → W1.grownBy W2 (some bm) →
      BTurned S w W2 b bd room O (L ++ [(s, x)]) k) := by
  obtain ⟨Sc, Sd, rfl, ⟨bm, vo, E, rfl, hm, rfl⟩, hd⟩ := h
  have hk : hasKey (E.map En.sg) (s : Int) = false := by
    cases hk : hasKey (E.map En.sg) (s : Int)
    · rfl
    · obtain ⟨p, hp, hps⟩ := hasKey_iff.1 hk
      obtain ⟨e, he, rfl⟩ := List.mem_map.1 hp
      exact absurd (show e.s = s by simp only [En.sg] at hps; omega) (hno e.sx (List.mem_map.2 ⟨e, he, rfl⟩))
  refine ⟨bm, hm.c2, .inl (.inr (.inl rfl)), hm.b_bm, fun W1 g x hb hB hg => ⟨_, _, _, hm.map.keep (hb.block bm hm.map.lt), by simp at hlen; unfold maxLen; omega, fun W2 hM hG => ?_⟩⟩
  have m4 := hm.more hk (x := x) hg hb hB hG hM
  refine BTurned.cache (Sc' := cfoot b bm vo ((E ++ [(⟨s, g, x⟩ : En)]).map En.g)) ⟨bm, vo, E, rfl, hm, rfl⟩ hd ?_ ⟨bm, vo, _, rfl, m4, by simp [En.sx]⟩ fun j hj => ?_
  · exact (Kept.of_below hb).trans (Kept.of_grown (S := cfoot b bm vo (E.map (·.g))) hG fun j hj => .inr (.inl (by injection hj with hj; exact hj.symm))) fun j hj => .inl hj
  · rcases hj with h | h | h | h
    · exact .inl (.inl h)
    · exact .inl (.inr (.inl h))
    · exact .inl (.inr (.inr (.inl h)))
    · rw [List.map_append, List.mem_append] at h
      rcases h with h | h
      · exact .inl (.inr (.inr (.inr h)))
      · obtain rfl : j = g := by simpa using h
        exact .inr hg

theorem Both.noslotW (h : Both w S b bd room O L k) {s : Int} (hx : ∀ p ∈ L, (p.1 : Int) ≠ s) (hs : I64 s) : ∃ bm, ∀ W : World, (∀ j, S j → W.heap[j]? = w.heap[j]?) → (Instr.lookup 60 (.map (some bm)) (.int .i64 s) false).run Try.prog W = .ok (.pointer none) W ∧ W.cell? ⟨b, 2, none⟩ = some (.map (some bm)) := by
  obtain ⟨Sc, Sd, rfl, ⟨bm, vo, E, rfl, hm, rfl⟩, hd⟩ := h
  refine ⟨bm, fun W hW => ?_⟩
  have hmW := hm.keep (w' := W) fun j hj => hW j (.inl hj)
  have hlk := hmW.look s hs
  rw [blkAt_none (by
    cases hk : hasKey (E.map En.sg) s
    · rfl
    · obtain ⟨p, hp, hps⟩ := hasKey_iff.1 hk
      obtain ⟨e, he, rfl⟩ := List.mem_map.1 hp
      exact absurd hps (hx e.sx (List.mem_map.2 ⟨e, he, rfl⟩)))] at hlk
  exact ⟨hlk, hmW.c2⟩

set_option maxRecDepth 100000 in
set_option maxHeartbeats 3200000 in
/-- Put of a sector that is cached. -/
theorem put_hit (h : Both w S b bd room (keysI L) L k) (F : Fine N L k) {i s c gb : Nat} {x : Sl} (hL : L[i]? = some (s, x)) (hB : Bk w gb 5 (same c)) (hgb : ¬ S gb) :
    Calls Try.prog 14 #[.pointer (some ⟨b, 0, none⟩), .agg #[.int .i64 (s : Int), .slice (some ⟨gb, 0, none⟩) 64 64, .int .u16 (c : Int)]] w fun e w' => e = .returned (.int .i64 0) ∧
      BTurned S w w' b bd room (keysI (L.eraseIdx i ++ [(s, { x with c := c, tag := c, dirty := true })])) (L.eraseIdx i ++ [(s, { x with c := c, tag := c, dirty := true })]) k := by
  have hx := List.mem_of_getElem? hL
  have hs : s < k.safe.length := F.key _ hx
  have hs' : s ≤ 4096 := Nat.le_trans (Nat.le_of_lt hs) F.n
  have hh : k.has (s : Int) = true := by simp [Dk.has]; omega
  obtain ⟨bm, g, hSg, hW⟩ := h.slotW hL hs'
  obtain ⟨W, hWd⟩ : ∃ W, W = w.alloc (.cells #[.int .i64 (s : Int), .slice (some ⟨gb, 0, none⟩) 64 64, .int .u16 (c : Int)] 41) := ⟨_, rfl⟩
  have hb1 : Below w.heap.size w W := by rw [hWd]; exact (Below.refl _ w).alloc (Nat.le_refl _) _
  have hpb : Bk W w.heap.size 41 [.int .i64 (s : Int), .slice (some ⟨gb, 0, none⟩) 64 64, .int .u16 (c : Int)] := by rw [hWd]; exact Bk.new w 41 _
  have p0 : W.cell? ⟨w.heap.size, 0, none⟩ = some (.int .i64 (s : Int)) := hpb.cell 0
  have p1 : W.cell? ⟨w.heap.size, 1, none⟩ = some (.slice (some ⟨gb, 0, none⟩) 64 64) := hpb.cell 1
  have p2 : W.cell? ⟨w.heap.size, 2, none⟩ = some (.int .u16 (c : Int)) := hpb.cell 2
  have hWW : ∀ n, (Instr.lookup 60 (.map (some bm)) (.int .i64 (s : Int)) false).run Try.prog (W.drewN n) = .ok (.pointer (some ⟨g, 0, none⟩)) (W.drewN n) := fun n => (hW (W.drewN n) fun j hj => hb1.block j (h.lt hj)).1
  have c2 := (hW W fun j hj => hb1.block j (h.lt hj)).2.1
  obtain ⟨pb, hp⟩ : ∃ pb, pb = w.heap.size := ⟨_, rfl⟩
  have H1 := Lib.hid (h.below hb1)
  have HB := Lib.hid (hB.below hb1 hB.lt)
  have Hgb : Hid (gb ≠ g) := fun e => hgb (e ▸ hSg)
  have Hgp : Hid (g ≠ pb) := by have := h.lt hSg; unfold Hid; omega
  have Hh := Lib.hid hh
  have HW := Lib.hid hW
  have Hlt := Lib.hid fun j (hj : S j) => hb1.block j (h.lt hj)
  have HF := Lib.hid F
  have HL := Lib.hid hL
  have Hb1 := Lib.hid hb1
  have Hn := Lib.hid h.nodup
  rw [← hp] at p0 p1 p2
  have Hpb := Lib.hid hpb
  have Hp := Lib.hid hp
  have HWd := Lib.hid hWd
  clear h F hL hx hs hs' hh hW hB hgb hSg hpb hb1 hp hWd
  go_enter Try.func14, Try.ntmps14
  go_wp2_with fail
  rw [← HWd.out, ← Hp.out]
  refine (creach_any H1.out (s : Int)).mono ?_
  rintro e W' ⟨rfl, rfl⟩
  rw [Hh.out, if_pos rfl]
  go_wp2
  go_quiet (fail)
  have c2n : (W.drewN nq).cell? ⟨b, 2, none⟩ = some (.map (some bm)) := c2
  have r0 : (W.drewN nq).cell? ⟨pb, 0, none⟩ = some (.int .i64 (s : Int)) := p0
  have r1 : (W.drewN nq).cell? ⟨pb, 1, none⟩ = some (.slice (some ⟨gb, 0, none⟩) 64 64) := p1
  have r2 : (W.drewN nq).cell? ⟨pb, 2, none⟩ = some (.int .u16 (c : Int)) := p2
  have hWW2 : ∀ n, (Instr.lookup 60 (.map (some bm)) (.int .i64 (s : Int)) false).run Try.prog ((W.drewN nq).drewN n) = .ok (.pointer (some ⟨g, 0, none⟩)) ((W.drewN nq).drewN n) := fun n => (HW.out ((W.drewN nq).drewN n) Hlt.out).1
  have HV : Hid ((W.drewN nq).heap = W.heap ∧ Below w.heap.size w (W.drewN nq)) := ⟨rfl, ⟨Hb1.out.os, Hb1.out.tape, Hb1.out.output, Hb1.out.size, Hb1.out.block⟩⟩
  clear hWW p0 p1 p2 c2
  generalize W.drewN nq = V at hWW2 HV c2n r0 r1 r2 ⊢
  go_wp2
  go_quiet (fail)
  have q0 : (V.drewN nq).cell? ⟨pb, 0, none⟩ = some (.int .i64 (s : Int)) := r0
  have q1 : (V.drewN nq).cell? ⟨pb, 1, none⟩ = some (.slice (some ⟨gb, 0, none⟩) 64 64) := r1
  have q2 : (V.drewN nq).cell? ⟨pb, 2, none⟩ = some (.int .u16 (c : Int)) := r2
  have HU : Hid ((V.drewN nq).heap = W.heap ∧ Below w.heap.size w (V.drewN nq)) := ⟨HV.out.1, ⟨HV.out.2.os, HV.out.2.tape, HV.out.2.output, HV.out.2.size, HV.out.2.block⟩⟩
  clear hWW2 c2n r0 r1 r2 HV
  generalize V.drewN nq = U at HU q0 q1 q2 ⊢
  have hU := HW.out U fun j hj => (congrArg (fun h => h[j]?) HU.out.1).trans (Hlt.out j hj)
  have hBg := Lib.hid hU.2.2.1
  have hfin := Lib.hid hU.2.2.2
  have Q3 : Hid (U.rangeAt gb 0 (same c)) := fun j v hj => by
    have := HB.out.cell j
    rw [Nat.zero_add]
    rw [hj] at this
    exact (World.cell?_of_block (a := ⟨gb, j, none⟩) (congrArg (fun h => h[gb]?) HU.out.1)).trans this
  clear hU
  go_wp2
  refine wp_region_held_drew (S := fun u : World => u.cell? ⟨pb, 1, none⟩ = some (.slice (some ⟨gb, 0, none⟩) 64 64) ∧ u.cell? ⟨pb, 2, none⟩ = some (.int .u16 (c : Int)) ∧ u.rangeAt gb 0 (same c)) (by kernel_rfl) ⟨q1, q2, Q3.out⟩ (fun hHeld => ?_)
  refine wpAnyH_take (i := 0) (oi := _) (v := ?_) (by simp only [List.getElem?_toArray, List.getElem?_cons_zero]; rfl) (by kernel_rfl) (by kernel_rfl) (by kernel_rfl) (by exact fun _ _ _ h => h) (Or.inl ⟨by rfl, ?hya0⟩) (⟨q1, q2, Q3.out⟩) ?rea0
  case hya0 => (rintro u ⟨hA1, hA2, hA3⟩; clear hA3; have hat := run_arrayAt u ⟨gb, 0, none⟩ 64; go_simp <;> with_reducible rfl)
  try simp only [Act.put, List.setIfInBounds_toArray, List.set_cons_zero, List.set_cons_succ]
  refine wpAnyH_take (i := 3) (oi := _) (v := ?_) (by simp only [List.getElem?_toArray, List.getElem?_cons_succ, List.getElem?_cons_zero]; rfl) (by kernel_rfl) (by kernel_rfl) (by kernel_rfl) (by exact fun _ _ _ h => h) (Or.inl ⟨by rfl, ?hya3⟩) (⟨q1, q2, Q3.out⟩) ?rea3
  case hya3 => (rintro u ⟨hA1, hA2, hA3⟩; clear hA3; have hat := run_arrayAt u ⟨gb, 0, none⟩ 64; go_simp <;> with_reducible rfl)
  try simp only [Act.put, List.setIfInBounds_toArray, List.set_cons_zero, List.set_cons_succ]
  refine wpAnyH_take (i := 4) (oi := _) (v := ?_) (by simp only [List.getElem?_toArray, List.getElem?_cons_succ, List.getElem?_cons_zero]; rfl) (by kernel_rfl) (by kernel_rfl) (by kernel_rfl) (by exact fun _ _ _ h => h) (Or.inl ⟨by rfl, ?hya4⟩) (⟨q1, q2, Q3.out⟩) ?rea4
  case hya4 => (rintro u ⟨hA1, hA2, hA3⟩; clear hA3; have hat := run_arrayAt u ⟨gb, 0, none⟩ 64; go_simp <;> with_reducible rfl)
  try simp only [Act.put, List.setIfInBounds_toArray, List.set_cons_zero, List.set_cons_succ]
  refine wpAnyH_take (i := 5) (oi := _) (v := ?_) (by simp only [List.getElem?_toArray, List.getElem?_cons_succ, List.getElem?_cons_zero]; rfl) (by kernel_rfl) (by kernel_rfl) (by kernel_rfl) (by exact fun _ _ _ h => h) (Or.inl ⟨by rfl, ?hya5⟩) (⟨q1, q2, Q3.out⟩) ?rea5
  case hya5 => (rintro u ⟨hA1, hA2, hA3⟩; clear hA3; have hat := run_arrayAt u ⟨gb, 0, none⟩ 64; go_simp <;> with_reducible rfl)
  try simp only [Act.put, List.setIfInBounds_toArray, List.set_cons_zero, List.set_cons_succ]
  refine wpAnyH_take (i := 6) (oi := _) (v := _) (by simp only [List.getElem?_toArray, List.getElem?_cons_succ, List.getElem?_cons_zero]; rfl) (by kernel_rfl) (by kernel_rfl) (by kernel_rfl) (by exact fun _ _ _ h => h) (yieldsIf_load_mid (by rfl) 65 _ rfl gb 0 rfl (same c) _ (fun w' h => h.2.2) Try.underlying65 rfl (by rw [size61, same_length])) (⟨q1, q2, Q3.out⟩) ?_
  try simp only [Act.put, List.setIfInBounds_toArray, List.set_cons_zero, List.set_cons_succ]
  refine wpAnyH_take (i := 7) (oi := _) (v := ?_) (by simp only [List.getElem?_toArray, List.getElem?_cons_succ, List.getElem?_cons_zero]; rfl) (by kernel_rfl) (by kernel_rfl) (by kernel_rfl) (by exact fun _ _ _ h => h) (Or.inl ⟨by rfl, ?hya7⟩) (⟨q1, q2, Q3.out⟩) ?rea7
  case hya7 => (rintro u ⟨hA1, hA2, hA3⟩; clear hA3; have hat := run_arrayAt u ⟨gb, 0, none⟩ 64; go_simp <;> with_reducible rfl)
  try simp only [Act.put, List.setIfInBounds_toArray, List.set_cons_zero, List.set_cons_succ]
  refine wpAnyH_take (i := 8) (oi := _) (v := ?_) (by simp only [List.getElem?_toArray, List.getElem?_cons_succ, List.getElem?_cons_zero]; rfl) (by kernel_rfl) (by kernel_rfl) (by kernel_rfl) (by exact fun _ _ _ h => h) (Or.inl ⟨by rfl, ?hya8⟩) (⟨q1, q2, Q3.out⟩) ?rea8
  case hya8 => (rintro u ⟨hA1, hA2, hA3⟩; clear hA3; have hat := run_arrayAt u ⟨gb, 0, none⟩ 64; go_simp <;> with_reducible rfl)
  try simp only [Act.put, List.setIfInBounds_toArray, List.set_cons_zero, List.set_cons_succ]
  refine wpAnyH_take (i := 1) (oi := _) (v := ?_) (by simp only [List.getElem?_toArray, List.getElem?_cons_succ, List.getElem?_cons_zero]; rfl) (by kernel_rfl) (by kernel_rfl) (by kernel_rfl) (by exact fun _ _ _ h => h) (Or.inl ⟨by rfl, ?hya1⟩) (⟨q1, q2, Q3.out⟩) ?rea1
  case hya1 => (rintro u ⟨hA1, hA2, hA3⟩; clear hA3; have hat := run_arrayAt u ⟨gb, 0, none⟩ 64; go_simp <;> with_reducible rfl)
  try simp only [Act.put, List.setIfInBounds_toArray, List.set_cons_zero, List.set_cons_succ]
  refine wpAnyH_take (i := 2) (oi := _) (v := ?_) (by simp only [List.getElem?_toArray, List.getElem?_cons_succ, List.getElem?_cons_zero]; rfl) (by kernel_rfl) (by kernel_rfl) (by kernel_rfl) (by exact fun _ _ _ h => h) (Or.inl ⟨by rfl, ?hya2⟩) (⟨q1, q2, Q3.out⟩) ?rea2
  case hya2 => (rintro u ⟨hA1, hA2, hA3⟩; clear hA3; have hat := run_arrayAt u ⟨gb, 0, none⟩ 64; go_simp <;> with_reducible rfl)
  try simp only [Act.put, List.setIfInBounds_toArray, List.set_cons_zero, List.set_cons_succ]
  refine wpAnyH_take (i := 9) (oi := _) (v := ?_) (by simp only [List.getElem?_toArray, List.getElem?_cons_succ, List.getElem?_cons_zero]; rfl) (by kernel_rfl) (by kernel_rfl) (by kernel_rfl) (by exact fun _ _ _ h => h) (Or.inl ⟨by rfl, ?hya9⟩) (⟨q1, q2, Q3.out⟩) ?rea9
  case hya9 => (rintro u ⟨hA1, hA2, hA3⟩; clear hA3; have hat := run_arrayAt u ⟨gb, 0, none⟩ 64; go_simp <;> with_reducible rfl)
  try simp only [Act.put, List.setIfInBounds_toArray, List.set_cons_zero, List.set_cons_succ]
  refine wpAnyH_take (i := 10) (oi := _) (v := ?_) (by simp only [List.getElem?_toArray, List.getElem?_cons_succ, List.getElem?_cons_zero]; rfl) (by kernel_rfl) (by kernel_rfl) (by kernel_rfl) (by exact fun _ _ _ h => h) (Or.inl ⟨by rfl, ?hya10⟩) (⟨q1, q2, Q3.out⟩) ?rea10
  case hya10 => (rintro u ⟨hA1, hA2, hA3⟩; clear hA3; have hat := run_arrayAt u ⟨gb, 0, none⟩ 64; go_simp <;> with_reducible rfl)
  try simp only [Act.put, List.setIfInBounds_toArray, List.set_cons_zero, List.set_cons_succ]
  refine wpAnyH_ready (rs := [11]) (by kernel_rfl) (by simp) ?_
  refine AllReadyH.cons (o := _) (by simp only [List.getElem?_toArray, List.getElem?_cons_succ, List.getElem?_cons_zero]; rfl) (fun K hK => ?_) AllReadyH.nil
  rw [if_pos (by rfl)]
  refine wp_store_mid 65 _ _ rfl g 0 (same c).toArray rfl rfl (by rw [List.size_toArray, same_length]; exact slot_there (W := U.drew) hBg.out) (by rw [size61]; simp [same_length]) (all_oneCell_toArray (same_one c)) ?_
  simp only [Act.put]
  have hU1 := stored (W := U.drew) (g := g) (pb := pb) (gb := gb) (s := s) hBg.out Hgb.out Hgp.out q0 q1 q2 Q3.out
  refine hK.out _ _ hU1.held (fun hHeld2 => ?_)
  clear hK K hHeld hHeld2
  have c64 := hU1.c64
  have c65 := hU1.c65
  have f64 := hU1.f64
  have f65 := hU1.f65
  have d1 := hU1.k1
  have d2 := hU1.k2
  have HU1 := Lib.hid hU1
  clear hU1 q1 q2 q0
  generalize U.drew.setCells g 0 (same c) = U1 at *
  refine wpAnyH_take (i := 12) (oi := _) (v := ?_) (by simp only [List.getElem?_toArray, List.getElem?_cons_succ, List.getElem?_cons_zero]; rfl) (by kernel_rfl) (by kernel_rfl) (by kernel_rfl) (by exact fun _ _ _ h => h) (Or.inl ⟨by rfl, ?hyb12⟩) (HU1.out.held) ?reb12
  case hyb12 => (rintro u ⟨hA1, hA2, hA3⟩; clear hA3; have hat := run_arrayAt u ⟨gb, 0, none⟩ 64; go_simp <;> with_reducible rfl)
  try simp only [Act.put, List.setIfInBounds_toArray, List.set_cons_zero, List.set_cons_succ]
  refine wpAnyH_take (i := 13) (oi := _) (v := ?_) (by simp only [List.getElem?_toArray, List.getElem?_cons_succ, List.getElem?_cons_zero]; rfl) (by kernel_rfl) (by kernel_rfl) (by kernel_rfl) (by exact fun _ _ _ h => h) (Or.inl ⟨by rfl, ?hyb13⟩) (HU1.out.held) ?reb13
  case hyb13 => (rintro u ⟨hA1, hA2, hA3⟩; clear hA3; have hat := run_arrayAt u ⟨gb, 0, none⟩ 64; go_simp <;> with_reducible rfl)
  try simp only [Act.put, List.setIfInBounds_toArray, List.set_cons_zero, List.set_cons_succ]
  refine wpAnyH_ready (rs := [14]) (by kernel_rfl) (by simp) ?_
  refine AllReadyH.cons (o := _) (by simp only [List.getElem?_toArray, List.getElem?_cons_succ, List.getElem?_cons_zero]; rfl) (fun K hK => ?_) AllReadyH.nil
  go_simp
  refine hK.out _ _ (HU1.out.held1 64 _) (fun hHeld2 => ?_)
  clear hK K hHeld2
  refine wpAnyH_take (i := 15) (oi := _) (v := ?_) (by simp only [List.getElem?_toArray, List.getElem?_cons_succ, List.getElem?_cons_zero]; rfl) (by kernel_rfl) (by kernel_rfl) (by kernel_rfl) (by exact fun _ _ _ h => h) (Or.inl ⟨by rfl, ?hyc15⟩) ((HU1.out.held1 64 _)) ?rec15
  case hyc15 => (rintro u ⟨hA1, hA2, hA3⟩; clear hA3; have hat := run_arrayAt u ⟨gb, 0, none⟩ 64; go_simp <;> with_reducible rfl)
  try simp only [Act.put, List.setIfInBounds_toArray, List.set_cons_zero, List.set_cons_succ]
  refine wpAnyH_take (i := 16) (oi := _) (v := ?_) (by simp only [List.getElem?_toArray, List.getElem?_cons_succ, List.getElem?_cons_zero]; rfl) (by kernel_rfl) (by kernel_rfl) (by kernel_rfl) (by exact fun _ _ _ h => h) (Or.inl ⟨by rfl, ?hyc16⟩) ((HU1.out.held1 64 _)) ?rec16
  case hyc16 => (rintro u ⟨hA1, hA2, hA3⟩; clear hA3; have hat := run_arrayAt u ⟨gb, 0, none⟩ 64; go_simp <;> with_reducible rfl)
  try simp only [Act.put, List.setIfInBounds_toArray, List.set_cons_zero, List.set_cons_succ]
  refine wpAnyH_ready (rs := [17]) (by kernel_rfl) (by simp) ?_
  refine AllReadyH.cons (o := _) (by simp only [List.getElem?_toArray, List.getElem?_cons_succ, List.getElem?_cons_zero]; rfl) (fun K hK => ?_) AllReadyH.nil
  go_simp
  refine hK.out _ _ (HU1.out.held2 64 _ 65 _) (fun hHeld2 => ?_)
  clear hK K hHeld2
  refine wpAnyH_done (by kernel_rfl) ?_ _
  have e0 := HU1.out.z0
  have hB3 := HU1.out.fin
  have hG3 : U.grownBy ((U1.setCell ⟨g, 64, none⟩ (.int .u16 (c : Int))).setCell ⟨g, 65, none⟩ (.bool true)) (some g) := ⟨HU1.out.grown.os, HU1.out.grown.tape, HU1.out.grown.output, HU1.out.grown.size, HU1.out.grown.block⟩
  have HB3 := Lib.hid hB3
  have HG3 := Lib.hid hG3
  clear hB3 hG3 c64 c65 f64 f65 d1 d2 HU1
  generalize (U1.setCell ⟨g, 64, none⟩ (.int .u16 (c : Int))).setCell ⟨g, 65, none⟩ (.bool true) = U3 at *
  have hfin2 := hfin.out U3 { x with c := c, tag := c, dirty := true } HG3.out HB3.out
  obtain ⟨hK3, S3, hB3', hS3⟩ := hfin2
  have HK3 := Lib.hid hK3
  have HS3 := Lib.hid hS3
  have HBB := Lib.hid hB3'
  clear hK3 hS3 hB3'
  go_wp2_with (go_at_call 26; refine (use_any HBB.out _ (by have := HF.out.len; simp [keysI]; omega)).mono ?_; rintro e w9 ⟨rfl, hT⟩; have T := Lib.hid hT; clear hT)
  go_ret
  refine ⟨rfl, ?_⟩
  have hT := T.out
  rw [keys_touch Hn.out HL.out (y := { x with c := c, tag := c, dirty := true })] at hT
  have hi := (List.getElem?_eq_some_iff.1 HL.out).1
  have hT2 := hT.touch (i := i) (p := (s, { x with c := c, tag := c, dirty := true })) (List.getElem?_set_self hi)
  rw [List.eraseIdx_set_eq] at hT2
  refine BTurned.trans ((Kept.of_below HU.out.2).trans HK3.out fun j hj => .inl hj) (fun j hj => ?_) hT2
  rcases HS3.out j hj with h | h
  · exact .inl h
  · exact .inr (Nat.le_trans HU.out.2.size h)

set_option maxRecDepth 100000 in
set_option maxHeartbeats 3200000 in
/-- Put of a sector that is not cached. -/
theorem put_miss (h : Both w S b bd room (keysI L) L k) (F : Fine N L k) (hN : N ≤ 1000000000) {s c gb : Nat} (hs : s < k.safe.length) (hno : ∀ p ∈ L, p.1 ≠ s) (hk : roomK room L k = some (L1, k1)) (hB : Bk w gb 5 (same c)) (hgb : ¬ S gb) :
    Calls Try.prog 14 #[.pointer (some ⟨b, 0, none⟩), .agg #[.int .i64 (s : Int), .slice (some ⟨gb, 0, none⟩) 64 64, .int .u16 (c : Int)]] w fun e w' => e = .returned (.int .i64 0) ∧
      BTurned S w w' b bd room (keysI (L1 ++ [(s, ⟨c, c, true, 0⟩)])) (L1 ++ [(s, ⟨c, c, true, 0⟩)]) k1 := by
  have hs' : s ≤ 4096 := Nat.le_trans (Nat.le_of_lt hs) F.n
  have hh : k.has (s : Int) = true := by simp [Dk.has]; omega
  obtain ⟨W, hWd⟩ : ∃ W, W = w.alloc (.cells #[.int .i64 (s : Int), .slice (some ⟨gb, 0, none⟩) 64 64, .int .u16 (c : Int)] 41) := ⟨_, rfl⟩
  have hb1 : Below w.heap.size w W := by rw [hWd]; exact (Below.refl _ w).alloc (Nat.le_refl _) _
  have hpb : Bk W w.heap.size 41 [.int .i64 (s : Int), .slice (some ⟨gb, 0, none⟩) 64 64, .int .u16 (c : Int)] := by rw [hWd]; exact Bk.new w 41 _
  have p0 : W.cell? ⟨w.heap.size, 0, none⟩ = some (.int .i64 (s : Int)) := hpb.cell 0
  have p1 : W.cell? ⟨w.heap.size, 1, none⟩ = some (.slice (some ⟨gb, 0, none⟩) 64 64) := hpb.cell 1
  have p2 : W.cell? ⟨w.heap.size, 2, none⟩ = some (.int .u16 (c : Int)) := hpb.cell 2
  have h1 := h.below hb1
  obtain ⟨bm0, hW0⟩ := h1.noslotW (s := (s : Int)) (fun p hp e => hno p hp (by omega)) (I64_nat hs')
  have hWW : ∀ n, (Instr.lookup 60 (.map (some bm0)) (.int .i64 (s : Int)) false).run Try.prog (W.drewN n) = .ok (.pointer none) (W.drewN n) := fun n => (hW0 (W.drewN n) fun _ _ => rfl).1
  have c2 := (hW0 W fun _ _ => rfl).2
  obtain ⟨pb, hp⟩ : ∃ pb, pb = w.heap.size := ⟨_, rfl⟩
  have H1 := Lib.hid h1
  have HB := Lib.hid (hB.below hb1 hB.lt)
  have Hgb := Lib.hid hgb
  have Hpbs : Hid (¬ S pb) := fun e => by have := h.lt e; omega
  have Hh := Lib.hid hh
  have HF := Lib.hid F
  have HN := Lib.hid hN
  have Hk := Lib.hid hk
  have Hb1 := Lib.hid hb1
  have Hs := Lib.hid hs'
  have Hno : Hid (∀ p ∈ L1, p.1 ≠ s) := fun p hp => hno p ((roomK_sub hk).subset hp)
  have Hgbw := Lib.hid hB.lt
  rw [← hp] at p0 p1 p2
  have Hpb := Lib.hid hpb
  have Hp := Lib.hid hp
  have HWd := Lib.hid hWd
  have HpW : Hid (pb < W.heap.size) := by have := hpb.lt; unfold Hid; omega
  obtain ⟨Z, hZ⟩ : ∃ Z : Array Value, Z = zslot.toArray := ⟨_, rfl⟩
  have HZ := Lib.hid hZ
  have hz := zeroV67
  rw [← hZ] at hz
  clear h F hN hs hno hk hs' hh hW0 hB hgb hpb hb1 hp hWd h1 hZ
  go_enter Try.func14, Try.ntmps14
  go_wp2_with fail
  rw [← HWd.out, ← Hp.out]
  refine (creach_any H1.out (s : Int)).mono ?_
  rintro e W' ⟨rfl, rfl⟩
  rw [Hh.out, if_pos rfl]
  go_wp2
  go_quiet (fail)
  have c2n : (W.drewN nq).cell? ⟨b, 2, none⟩ = some (.map (some bm0)) := c2
  have r0 : (W.drewN nq).cell? ⟨pb, 0, none⟩ = some (.int .i64 (s : Int)) := p0
  have HV : Hid ((W.drewN nq).heap = W.heap ∧ Below w.heap.size w (W.drewN nq)) := ⟨rfl, ⟨Hb1.out.os, Hb1.out.tape, Hb1.out.output, Hb1.out.size, Hb1.out.block⟩⟩
  have HVB : Hid (Both (W.drewN nq) S b bd room (keysI L) L k) := H1.out.keep fun _ _ => rfl
  have Hp1 := Lib.hid p1
  have Hp2 := Lib.hid p2
  clear hWW p0 p1 p2 c2
  generalize W.drewN nq = V at HV HVB c2n r0 ⊢
  go_wp2_with fail
  refine (room_some HVB.out HF.out HN.out Hk.out).mono ?_
  rintro e V2 ⟨rfl, hK2, S2, hB2, hS2⟩
  have hpV : V2.heap[pb]? = W.heap[pb]? := (hK2.block pb (by rw [HV.out.1]; exact HpW.out) Hpbs.out).trans (congrArg (fun h => h[pb]?) HV.out.1)
  have hgV : V2.heap[gb]? = W.heap[gb]? := (hK2.block gb (by rw [HV.out.1]; exact HB.out.lt) Hgb.out).trans (congrArg (fun h => h[gb]?) HV.out.1)
  have s0 : V2.cell? ⟨pb, 0, none⟩ = some (.int .i64 (s : Int)) := by
    have := (World.cell?_of_block (a := ⟨pb, 0, none⟩) hpV).trans (World.cell?_of_block (a := ⟨pb, 0, none⟩) (congrArg (fun h => h[pb]?) HV.out.1.symm))
    exact this.trans r0
  obtain ⟨bm, c22, hSbm, hbbm, hmore⟩ := hB2.moreW Hno.out (Nat.le_trans (roomK_fine HF.out Hk.out).len (by decide))
  have hpbm : pb ≠ bm := fun e => by
    rcases hS2 bm hSbm with h | h
    · exact Hpbs.out (e ▸ h)
    · have := HpW.out; have h5 := congrArg Array.size HV.out.1; omega
  have HpV := Lib.hid hpV
  have HgV := Lib.hid hgV
  have Hmore := Lib.hid hmore
  have HK2 := Lib.hid hK2
  have HB2 := Lib.hid hB2
  have HS2 := Lib.hid hS2
  have Hbbm := Lib.hid hbbm
  have Hpbm := Lib.hid hpbm
  clear c2n r0 hpV hgV hmore hK2 hB2 hS2 hbbm hpbm hSbm
  go_wp2
  refine wp_region_held_drew (S := fun u : World => u.cell? ⟨b, 2, none⟩ = some (.map (some bm)) ∧ u.cell? ⟨pb, 0, none⟩ = some (.int .i64 (s : Int))) (by kernel_rfl) ⟨c22, s0⟩ (fun hHeld => ?_)
  refine wpAnyH_take (i := 0) (oi := _) (v := ?_) (by simp only [List.getElem?_toArray, List.getElem?_cons_zero]; rfl) (by kernel_rfl) (by kernel_rfl) (by kernel_rfl) (by exact fun _ _ _ h => h) (Or.inl ⟨by rfl, ?hyd0⟩) (⟨c22, s0⟩) ?red0
  case hyd0 => (rintro u ⟨hA1, hA2⟩; go_simp <;> with_reducible rfl)
  try simp only [Act.put, List.setIfInBounds_toArray, List.set_cons_zero, List.set_cons_succ]
  refine wpAnyH_take (i := 1) (oi := _) (v := ?_) (by simp only [List.getElem?_toArray, List.getElem?_cons_succ, List.getElem?_cons_zero]; rfl) (by kernel_rfl) (by kernel_rfl) (by kernel_rfl) (by exact fun _ _ _ h => h) (Or.inl ⟨by rfl, ?hyd1⟩) (⟨c22, s0⟩) ?red1
  case hyd1 => (rintro u ⟨hA1, hA2⟩; go_simp <;> with_reducible rfl)
  try simp only [Act.put, List.setIfInBounds_toArray, List.set_cons_zero, List.set_cons_succ]
  refine wpAnyH_take (i := 2) (oi := _) (v := ?_) (by simp only [List.getElem?_toArray, List.getElem?_cons_succ, List.getElem?_cons_zero]; rfl) (by kernel_rfl) (by kernel_rfl) (by kernel_rfl) (by exact fun _ _ _ h => h) (Or.inl ⟨by rfl, ?hyd2⟩) (⟨c22, s0⟩) ?red2
  case hyd2 => (rintro u ⟨hA1, hA2⟩; go_simp <;> with_reducible rfl)
  try simp only [Act.put, List.setIfInBounds_toArray, List.set_cons_zero, List.set_cons_succ]
  refine wpAnyH_take (i := 3) (oi := _) (v := ?_) (by simp only [List.getElem?_toArray, List.getElem?_cons_succ, List.getElem?_cons_zero]; rfl) (by kernel_rfl) (by kernel_rfl) (by kernel_rfl) (by exact fun _ _ _ h => h) (Or.inl ⟨by rfl, ?hyd3⟩) (⟨c22, s0⟩) ?red3
  case hyd3 => (rintro u ⟨hA1, hA2⟩; go_simp <;> with_reducible rfl)
  try simp only [Act.put, List.setIfInBounds_toArray, List.set_cons_zero, List.set_cons_succ]
  refine wpAnyH_take (i := 4) (oi := _) (v := ?_) (by simp only [List.getElem?_toArray, List.getElem?_cons_succ, List.getElem?_cons_zero]; rfl) (by kernel_rfl) (by kernel_rfl) (by kernel_rfl) (by exact fun _ _ _ h => h) (Or.inl ⟨by rfl, ?hyd4⟩) (⟨c22, s0⟩) ?red4
  case hyd4 => (rintro u ⟨hA1, hA2⟩; go_simp <;> with_reducible rfl)
  try simp only [Act.put, List.setIfInBounds_toArray, List.set_cons_zero, List.set_cons_succ]
  refine wpAnyH_take (i := 5) (oi := _) (v := ?_) (by simp only [List.getElem?_toArray, List.getElem?_cons_succ, List.getElem?_cons_zero]; rfl) (by kernel_rfl) (by kernel_rfl) (by kernel_rfl) (by exact fun _ _ _ h => h) (Or.inl ⟨by rfl, ?hyd5⟩) (⟨c22, s0⟩) ?red5
  case hyd5 => (rintro u ⟨hA1, hA2⟩; go_simp <;> with_reducible rfl)
  try simp only [Act.put, List.setIfInBounds_toArray, List.set_cons_zero, List.set_cons_succ]
  refine wpAnyH_ready (rs := [6]) (by kernel_rfl) (by simp) ?_
  refine AllReadyH.cons (o := _) (by simp only [List.getElem?_toArray, List.getElem?_cons_succ, List.getElem?_cons_zero]; rfl) (fun K hK => ?_) AllReadyH.nil
  go_simp
  refine hK.out _ _ ⟨c22, s0⟩ (fun hHeld2 => ?_)
  clear hK K hHeld hHeld2
  refine wpAnyH_ready (rs := [7]) (by kernel_rfl) (by simp) ?_
  refine AllReadyH.cons (o := _) (by simp only [List.getElem?_toArray, List.getElem?_cons_succ, List.getElem?_cons_zero]; rfl) (fun K hK => ?_) AllReadyH.nil
  go_simp
  have t22 : (V2.alloc (.cells Z 67)).drew.cell? ⟨b, 2, none⟩ = some (.map (some bm)) := (World.cell?_alloc_lt V2 _ _ (World.block_lt_of_cell? V2 _ c22)).trans c22
  have t0 : (V2.alloc (.cells Z 67)).drew.cell? ⟨pb, 0, none⟩ = some (.int .i64 (s : Int)) := (World.cell?_alloc_lt V2 _ _ (World.block_lt_of_cell? V2 _ s0)).trans s0
  have hBz : Bk (V2.alloc (.cells Z 67)).drew V2.heap.size 67 (Sl.cells ⟨0, 0, false, 0⟩) := by rw [HZ.out]; exact Bk.new V2 67 zslot
  have hbz : Below V2.heap.size V2 (V2.alloc (.cells Z 67)).drew := ((Below.refl _ V2).alloc (Nat.le_refl _) _).drew
  have HBz := Lib.hid hBz
  have Hbz := Lib.hid hbz
  clear hBz hbz
  refine hK.out _ _ ⟨t22, t0⟩ (fun hHeld2 => ?_)
  clear hK K hHeld2
  obtain ⟨g, hg⟩ : ∃ g, g = V2.heap.size := ⟨_, rfl⟩
  have hdh : V2.drew.heap.size = V2.heap.size := rfl
  generalize (V2.alloc (.cells Z 67)).drew = V3 at *
  refine wpAnyH_ready (rs := [8]) (by kernel_rfl) (by simp) ?_
  refine AllReadyH.cons (o := _) (by simp only [List.getElem?_toArray, List.getElem?_cons_succ, List.getElem?_cons_zero]; rfl) (fun K hK => ?_) AllReadyH.nil
  rw [if_pos (by rfl)]
  obtain ⟨at_, there, m, hM, hm, hnext⟩ := Hmore.out V3 V2.heap.size ⟨0, 0, false, 0⟩ Hbz.out HBz.out (Nat.le_refl _)
  refine wp_mput (.tmp 35) (.tmp 37) (.tmp 39) rfl ptrE Try.underlying60 rfl hM hm (I64_nat Hs.out) rfl (x := some V2.heap.size) trivial rfl (fun V4 hM4 hG4 => ?_)
  simp only [Act.put]
  have hT4 := hnext V4 hM4 hG4
  have u22 : V4.cell? ⟨b, 2, none⟩ = some (.map (some bm)) := (World.cell?_of_block (a := ⟨b, 2, none⟩) (hG4.block b (World.block_lt_of_cell? V3 _ t22) fun e => Hbbm.out (by injection e))).trans t22
  have u0 : V4.cell? ⟨pb, 0, none⟩ = some (.int .i64 (s : Int)) := (World.cell?_of_block (a := ⟨pb, 0, none⟩) (hG4.block pb (World.block_lt_of_cell? V3 _ t0) fun e => Hpbm.out (by injection e))).trans t0
  refine hK.out _ _ ⟨u22, u0⟩ (fun hHeld2 => ?_)
  have T4 := Lib.hid hT4
  clear hK K hHeld2 hM hm hnext hM4 hG4 hT4 t22 t0 hg hdh
  refine wpAnyH_done (by kernel_rfl) ?_ _
  obtain ⟨hK4, S4, hB4, hS4⟩ := T4.out
  have hVs : V.heap.size = W.heap.size := congrArg Array.size HV.out.1
  have n1 : ¬ S2 pb := fun h => by
    rcases HS2.out pb h with h | h
    · exact Hpbs.out h
    · have := HpW.out; omega
  have n2 : ¬ S2 gb := fun h => by
    rcases HS2.out gb h with h | h
    · exact Hgb.out h
    · have := HB.out.lt; omega
  have l1 : pb < V2.heap.size := World.block_lt_of_cell? V2 _ s0
  have l2 : gb < V2.heap.size := Nat.lt_of_lt_of_le (by rw [hVs]; exact HB.out.lt) HK2.out.size
  have hp4 : V4.heap[pb]? = W.heap[pb]? := (hK4.block pb l1 n1).trans HpV.out
  have hg4 : V4.heap[gb]? = W.heap[gb]? := (hK4.block gb l2 n2).trans HgV.out
  obtain ⟨bm4, g4, hSg, hW4⟩ := hB4.slotW (i := L1.length) (s := s) (x := ⟨0, 0, false, 0⟩) (by simp) Hs.out
  have hn1 : ¬ S4 pb := fun h => by
    rcases hS4 pb h with h | h
    · exact n1 h
    · omega
  have hn2 : ¬ S4 gb := fun h => by
    rcases hS4 gb h with h | h
    · exact n2 h
    · omega
  have Hgb4 : Hid (gb ≠ g4) := fun e => hn2 (e ▸ hSg)
  have Hgp4 : Hid (g4 ≠ pb) := fun e => hn1 (e ▸ hSg)
  have hWW2 : ∀ n, (Instr.lookup 60 (.map (some bm4)) (.int .i64 (s : Int)) false).run Try.prog (V4.drewN n) = .ok (.pointer (some ⟨g4, 0, none⟩)) (V4.drewN n) := fun n => (hW4 (V4.drewN n) fun _ _ => rfl).1
  have c24 := (hW4 V4 fun _ _ => rfl).2.1
  have v0 : V4.cell? ⟨pb, 0, none⟩ = some (.int .i64 (s : Int)) := u0
  have Hp4 := Lib.hid hp4
  have Hg4 := Lib.hid hg4
  have HW4 := Lib.hid hW4
  have HK4 := Lib.hid hK4
  have HS4 := Lib.hid hS4
  clear hK4 hB4 hS4 hVs n1 n2 l1 l2 hp4 hg4 hSg hW4 hn1 hn2 u22 u0 c22 s0 hz
  go_wp2
  go_quiet (fail)
  have q0 : (V4.drewN nq).cell? ⟨pb, 0, none⟩ = some (.int .i64 (s : Int)) := v0
  have q1 : (V4.drewN nq).cell? ⟨pb, 1, none⟩ = some (.slice (some ⟨gb, 0, none⟩) 64 64) := (World.cell?_of_block (a := ⟨pb, 1, none⟩) Hp4.out).trans Hp1.out
  have q2 : (V4.drewN nq).cell? ⟨pb, 2, none⟩ = some (.int .u16 (c : Int)) := (World.cell?_of_block (a := ⟨pb, 2, none⟩) Hp4.out).trans Hp2.out
  have hU := HW4.out (V4.drewN nq) fun _ _ => rfl
  have hBg := Lib.hid hU.2.2.1
  have hfin := Lib.hid hU.2.2.2
  have Q3 : Hid ((V4.drewN nq).rangeAt gb 0 (same c)) := fun j v hj => by
    have := HB.out.cell j
    rw [Nat.zero_add]
    rw [hj] at this
    exact (World.cell?_of_block (a := ⟨gb, j, none⟩) Hg4.out).trans this
  have HU : Hid (Below V4.heap.size V4 (V4.drewN nq)) := ⟨rfl, rfl, rfl, Nat.le_refl _, fun _ _ => rfl⟩
  clear hU hWW2 c24 v0
  generalize V4.drewN nq = U at HU q0 q1 q2 hBg hfin Q3 ⊢
  go_wp2
  refine wp_region_held_drew (S := fun u : World => u.cell? ⟨pb, 1, none⟩ = some (.slice (some ⟨gb, 0, none⟩) 64 64) ∧ u.cell? ⟨pb, 2, none⟩ = some (.int .u16 (c : Int)) ∧ u.rangeAt gb 0 (same c)) (by kernel_rfl) ⟨q1, q2, Q3.out⟩ (fun hHeld => ?_)
  refine wpAnyH_take (i := 0) (oi := _) (v := ?_) (by simp only [List.getElem?_toArray, List.getElem?_cons_zero]; rfl) (by kernel_rfl) (by kernel_rfl) (by kernel_rfl) (by exact fun _ _ _ h => h) (Or.inl ⟨by rfl, ?hya0⟩) (⟨q1, q2, Q3.out⟩) ?rea0
  case hya0 => (rintro u ⟨hA1, hA2, hA3⟩; clear hA3; have hat := run_arrayAt u ⟨gb, 0, none⟩ 64; go_simp <;> with_reducible rfl)
  try simp only [Act.put, List.setIfInBounds_toArray, List.set_cons_zero, List.set_cons_succ]
  refine wpAnyH_take (i := 3) (oi := _) (v := ?_) (by simp only [List.getElem?_toArray, List.getElem?_cons_succ, List.getElem?_cons_zero]; rfl) (by kernel_rfl) (by kernel_rfl) (by kernel_rfl) (by exact fun _ _ _ h => h) (Or.inl ⟨by rfl, ?hya3⟩) (⟨q1, q2, Q3.out⟩) ?rea3
  case hya3 => (rintro u ⟨hA1, hA2, hA3⟩; clear hA3; have hat := run_arrayAt u ⟨gb, 0, none⟩ 64; go_simp <;> with_reducible rfl)
  try simp only [Act.put, List.setIfInBounds_toArray, List.set_cons_zero, List.set_cons_succ]
  refine wpAnyH_take (i := 4) (oi := _) (v := ?_) (by simp only [List.getElem?_toArray, List.getElem?_cons_succ, List.getElem?_cons_zero]; rfl) (by kernel_rfl) (by kernel_rfl) (by kernel_rfl) (by exact fun _ _ _ h => h) (Or.inl ⟨by rfl, ?hya4⟩) (⟨q1, q2, Q3.out⟩) ?rea4
  case hya4 => (rintro u ⟨hA1, hA2, hA3⟩; clear hA3; have hat := run_arrayAt u ⟨gb, 0, none⟩ 64; go_simp <;> with_reducible rfl)
  try simp only [Act.put, List.setIfInBounds_toArray, List.set_cons_zero, List.set_cons_succ]
  refine wpAnyH_take (i := 5) (oi := _) (v := ?_) (by simp only [List.getElem?_toArray, List.getElem?_cons_succ, List.getElem?_cons_zero]; rfl) (by kernel_rfl) (by kernel_rfl) (by kernel_rfl) (by exact fun _ _ _ h => h) (Or.inl ⟨by rfl, ?hya5⟩) (⟨q1, q2, Q3.out⟩) ?rea5
  case hya5 => (rintro u ⟨hA1, hA2, hA3⟩; clear hA3; have hat := run_arrayAt u ⟨gb, 0, none⟩ 64; go_simp <;> with_reducible rfl)
  try simp only [Act.put, List.setIfInBounds_toArray, List.set_cons_zero, List.set_cons_succ]
  refine wpAnyH_take (i := 6) (oi := _) (v := _) (by simp only [List.getElem?_toArray, List.getElem?_cons_succ, List.getElem?_cons_zero]; rfl) (by kernel_rfl) (by kernel_rfl) (by kernel_rfl) (by exact fun _ _ _ h => h) (yieldsIf_load_mid (by rfl) 65 _ rfl gb 0 rfl (same c) _ (fun w' h => h.2.2) Try.underlying65 rfl (by rw [size61, same_length])) (⟨q1, q2, Q3.out⟩) ?_
  try simp only [Act.put, List.setIfInBounds_toArray, List.set_cons_zero, List.set_cons_succ]
  refine wpAnyH_take (i := 7) (oi := _) (v := ?_) (by simp only [List.getElem?_toArray, List.getElem?_cons_succ, List.getElem?_cons_zero]; rfl) (by kernel_rfl) (by kernel_rfl) (by kernel_rfl) (by exact fun _ _ _ h => h) (Or.inl ⟨by rfl, ?hya7⟩) (⟨q1, q2, Q3.out⟩) ?rea7
  case hya7 => (rintro u ⟨hA1, hA2, hA3⟩; clear hA3; have hat := run_arrayAt u ⟨gb, 0, none⟩ 64; go_simp <;> with_reducible rfl)
  try simp only [Act.put, List.setIfInBounds_toArray, List.set_cons_zero, List.set_cons_succ]
  refine wpAnyH_take (i := 8) (oi := _) (v := ?_) (by simp only [List.getElem?_toArray, List.getElem?_cons_succ, List.getElem?_cons_zero]; rfl) (by kernel_rfl) (by kernel_rfl) (by kernel_rfl) (by exact fun _ _ _ h => h) (Or.inl ⟨by rfl, ?hya8⟩) (⟨q1, q2, Q3.out⟩) ?rea8
  case hya8 => (rintro u ⟨hA1, hA2, hA3⟩; clear hA3; have hat := run_arrayAt u ⟨gb, 0, none⟩ 64; go_simp <;> with_reducible rfl)
  try simp only [Act.put, List.setIfInBounds_toArray, List.set_cons_zero, List.set_cons_succ]
  refine wpAnyH_take (i := 1) (oi := _) (v := ?_) (by simp only [List.getElem?_toArray, List.getElem?_cons_succ, List.getElem?_cons_zero]; rfl) (by kernel_rfl) (by kernel_rfl) (by kernel_rfl) (by exact fun _ _ _ h => h) (Or.inl ⟨by rfl, ?hya1⟩) (⟨q1, q2, Q3.out⟩) ?rea1
  case hya1 => (rintro u ⟨hA1, hA2, hA3⟩; clear hA3; have hat := run_arrayAt u ⟨gb, 0, none⟩ 64; go_simp <;> with_reducible rfl)
  try simp only [Act.put, List.setIfInBounds_toArray, List.set_cons_zero, List.set_cons_succ]
  refine wpAnyH_take (i := 2) (oi := _) (v := ?_) (by simp only [List.getElem?_toArray, List.getElem?_cons_succ, List.getElem?_cons_zero]; rfl) (by kernel_rfl) (by kernel_rfl) (by kernel_rfl) (by exact fun _ _ _ h => h) (Or.inl ⟨by rfl, ?hya2⟩) (⟨q1, q2, Q3.out⟩) ?rea2
  case hya2 => (rintro u ⟨hA1, hA2, hA3⟩; clear hA3; have hat := run_arrayAt u ⟨gb, 0, none⟩ 64; go_simp <;> with_reducible rfl)
  try simp only [Act.put, List.setIfInBounds_toArray, List.set_cons_zero, List.set_cons_succ]
  refine wpAnyH_take (i := 9) (oi := _) (v := ?_) (by simp only [List.getElem?_toArray, List.getElem?_cons_succ, List.getElem?_cons_zero]; rfl) (by kernel_rfl) (by kernel_rfl) (by kernel_rfl) (by exact fun _ _ _ h => h) (Or.inl ⟨by rfl, ?hya9⟩) (⟨q1, q2, Q3.out⟩) ?rea9
  case hya9 => (rintro u ⟨hA1, hA2, hA3⟩; clear hA3; have hat := run_arrayAt u ⟨gb, 0, none⟩ 64; go_simp <;> with_reducible rfl)
  try simp only [Act.put, List.setIfInBounds_toArray, List.set_cons_zero, List.set_cons_succ]
  refine wpAnyH_take (i := 10) (oi := _) (v := ?_) (by simp only [List.getElem?_toArray, List.getElem?_cons_succ, List.getElem?_cons_zero]; rfl) (by kernel_rfl) (by kernel_rfl) (by kernel_rfl) (by exact fun _ _ _ h => h) (Or.inl ⟨by rfl, ?hya10⟩) (⟨q1, q2, Q3.out⟩) ?rea10
  case hya10 => (rintro u ⟨hA1, hA2, hA3⟩; clear hA3; have hat := run_arrayAt u ⟨gb, 0, none⟩ 64; go_simp <;> with_reducible rfl)
  try simp only [Act.put, List.setIfInBounds_toArray, List.set_cons_zero, List.set_cons_succ]
  refine wpAnyH_ready (rs := [11]) (by kernel_rfl) (by simp) ?_
  refine AllReadyH.cons (o := _) (by simp only [List.getElem?_toArray, List.getElem?_cons_succ, List.getElem?_cons_zero]; rfl) (fun K hK => ?_) AllReadyH.nil
  rw [if_pos (by rfl)]
  refine wp_store_mid 65 _ _ rfl g4 0 (same c).toArray rfl rfl (by rw [List.size_toArray, same_length]; exact slot_there (W := U.drew) hBg.out) (by rw [size61]; simp [same_length]) (all_oneCell_toArray (same_one c)) ?_
  simp only [Act.put]
  have hU1 := stored (W := U.drew) (g := g4) (pb := pb) (gb := gb) (s := s) hBg.out Hgb4.out Hgp4.out q0 q1 q2 Q3.out
  refine hK.out _ _ hU1.held (fun hHeld2 => ?_)
  clear hK K hHeld hHeld2
  have c64 := hU1.c64
  have c65 := hU1.c65
  have f64 := hU1.f64
  have f65 := hU1.f65
  have d1 := hU1.k1
  have d2 := hU1.k2
  have HU1 := Lib.hid hU1
  clear hU1 q1 q2 q0
  generalize U.drew.setCells g4 0 (same c) = U1 at *
  refine wpAnyH_take (i := 12) (oi := _) (v := ?_) (by simp only [List.getElem?_toArray, List.getElem?_cons_succ, List.getElem?_cons_zero]; rfl) (by kernel_rfl) (by kernel_rfl) (by kernel_rfl) (by exact fun _ _ _ h => h) (Or.inl ⟨by rfl, ?hyb12⟩) (HU1.out.held) ?reb12
  case hyb12 => (rintro u ⟨hA1, hA2, hA3⟩; clear hA3; have hat := run_arrayAt u ⟨gb, 0, none⟩ 64; go_simp <;> with_reducible rfl)
  try simp only [Act.put, List.setIfInBounds_toArray, List.set_cons_zero, List.set_cons_succ]
  refine wpAnyH_take (i := 13) (oi := _) (v := ?_) (by simp only [List.getElem?_toArray, List.getElem?_cons_succ, List.getElem?_cons_zero]; rfl) (by kernel_rfl) (by kernel_rfl) (by kernel_rfl) (by exact fun _ _ _ h => h) (Or.inl ⟨by rfl, ?hyb13⟩) (HU1.out.held) ?reb13
  case hyb13 => (rintro u ⟨hA1, hA2, hA3⟩; clear hA3; have hat := run_arrayAt u ⟨gb, 0, none⟩ 64; go_simp <;> with_reducible rfl)
  try simp only [Act.put, List.setIfInBounds_toArray, List.set_cons_zero, List.set_cons_succ]
  refine wpAnyH_ready (rs := [14]) (by kernel_rfl) (by simp) ?_
  refine AllReadyH.cons (o := _) (by simp only [List.getElem?_toArray, List.getElem?_cons_succ, List.getElem?_cons_zero]; rfl) (fun K hK => ?_) AllReadyH.nil
  go_simp
  refine hK.out _ _ (HU1.out.held1 64 _) (fun hHeld2 => ?_)
  clear hK K hHeld2
  refine wpAnyH_take (i := 15) (oi := _) (v := ?_) (by simp only [List.getElem?_toArray, List.getElem?_cons_succ, List.getElem?_cons_zero]; rfl) (by kernel_rfl) (by kernel_rfl) (by kernel_rfl) (by exact fun _ _ _ h => h) (Or.inl ⟨by rfl, ?hyc15⟩) ((HU1.out.held1 64 _)) ?rec15
  case hyc15 => (rintro u ⟨hA1, hA2, hA3⟩; clear hA3; have hat := run_arrayAt u ⟨gb, 0, none⟩ 64; go_simp <;> with_reducible rfl)
  try simp only [Act.put, List.setIfInBounds_toArray, List.set_cons_zero, List.set_cons_succ]
  refine wpAnyH_take (i := 16) (oi := _) (v := ?_) (by simp only [List.getElem?_toArray, List.getElem?_cons_succ, List.getElem?_cons_zero]; rfl) (by kernel_rfl) (by kernel_rfl) (by kernel_rfl) (by exact fun _ _ _ h => h) (Or.inl ⟨by rfl, ?hyc16⟩) ((HU1.out.held1 64 _)) ?rec16
  case hyc16 => (rintro u ⟨hA1, hA2, hA3⟩; clear hA3; have hat := run_arrayAt u ⟨gb, 0, none⟩ 64; go_simp <;> with_reducible rfl)
  try simp only [Act.put, List.setIfInBounds_toArray, List.set_cons_zero, List.set_cons_succ]
  refine wpAnyH_ready (rs := [17]) (by kernel_rfl) (by simp) ?_
  refine AllReadyH.cons (o := _) (by simp only [List.getElem?_toArray, List.getElem?_cons_succ, List.getElem?_cons_zero]; rfl) (fun K hK => ?_) AllReadyH.nil
  go_simp
  refine hK.out _ _ (HU1.out.held2 64 _ 65 _) (fun hHeld2 => ?_)
  clear hK K hHeld2
  refine wpAnyH_done (by kernel_rfl) ?_ _
  have e0 := HU1.out.z0
  have hB3 := HU1.out.fin
  have hG3 : U.grownBy ((U1.setCell ⟨g4, 64, none⟩ (.int .u16 (c : Int))).setCell ⟨g4, 65, none⟩ (.bool true)) (some g4) := ⟨HU1.out.grown.os, HU1.out.grown.tape, HU1.out.grown.output, HU1.out.grown.size, HU1.out.grown.block⟩
  have HB3 := Lib.hid hB3
  have HG3 := Lib.hid hG3
  clear hB3 hG3 c64 c65 f64 f65 d1 d2 HU1
  generalize (U1.setCell ⟨g4, 64, none⟩ (.int .u16 (c : Int))).setCell ⟨g4, 65, none⟩ (.bool true) = U3 at *
  have hfin2 := hfin.out U3 ⟨c, c, true, 0⟩ HG3.out HB3.out
  rw [List.set_append_right _ _ (Nat.le_refl _), Nat.sub_self, List.set_cons_zero] at hfin2
  obtain ⟨hK3, S3, hB3', hS3⟩ := hfin2
  have HK3 := Lib.hid hK3
  have HS3 := Lib.hid hS3
  have HBB := Lib.hid hB3'
  clear hK3 hS3 hB3'
  have Hl1 : Hid ((keysI L1).length ≤ 100000) := by have := (roomK_fine HF.out Hk.out).len; unfold Hid; simp [keysI]; omega
  go_wp2_with (go_at_call 26; refine (use_any HBB.out _ Hl1.out).mono ?_; rintro e w9 ⟨rfl, hT⟩; have T := Lib.hid hT; clear hT)
  go_ret
  refine ⟨rfl, ?_⟩
  have hT := T.out
  rw [keys_more (x := ⟨c, c, true, 0⟩) Hno.out] at hT
  have k1' := (Kept.of_below (S := S) HV.out.2).trans HK2.out fun j hj => .inl hj
  have s1' : ∀ j, S2 j → S j ∨ w.heap.size ≤ j := fun j hj => (HS2.out j hj).imp id fun h => Nat.le_trans HV.out.2.size h
  have k2' := k1'.trans HK4.out s1'
  have s2' : ∀ j, S4 j → S j ∨ w.heap.size ≤ j := fun j hj => (HS4.out j hj).elim (s1' j) fun h => .inr (Nat.le_trans k1'.size h)
  have k3' := k2'.trans (Kept.of_below (S := S4) HU.out) s2'
  have k4' := k3'.trans HK3.out s2'
  have s4' : ∀ j, S3 j → S j ∨ w.heap.size ≤ j := fun j hj => (HS3.out j hj).elim (s2' j) fun h => .inr (Nat.le_trans k3'.size h)
  exact BTurned.trans k4' s4' hT

set_option maxRecDepth 100000 in
set_option maxHeartbeats 1600000 in
/-- Put when all are pinned. -/
theorem put_full (h : Both w S b bd room (keysI L) L k) (F : Fine N L k) {s : Nat} (gb : Nat) (c : Int) (hs : s < k.safe.length) (hno : ∀ p ∈ L, p.1 ≠ s) (hk : roomK room L k = none) :
    Calls Try.prog 14 #[.pointer (some ⟨b, 0, none⟩), .agg #[.int .i64 (s : Int), .slice (some ⟨gb, 0, none⟩) 64 64, .int .u16 c]] w fun e w' => e = .returned (.int .i64 5) ∧ BTurned S w w' b bd room (keysI L) L k := by
  have hs' : s ≤ 4096 := Nat.le_trans (Nat.le_of_lt hs) F.n
  have hh : k.has (s : Int) = true := by simp [Dk.has]; omega
  obtain ⟨W, hWd⟩ : ∃ W, W = w.alloc (.cells #[.int .i64 (s : Int), .slice (some ⟨gb, 0, none⟩) 64 64, .int .u16 c] 41) := ⟨_, rfl⟩
  have hb1 : Below w.heap.size w W := by rw [hWd]; exact (Below.refl _ w).alloc (Nat.le_refl _) _
  have hpb : Bk W w.heap.size 41 [.int .i64 (s : Int), .slice (some ⟨gb, 0, none⟩) 64 64, .int .u16 c] := by rw [hWd]; exact Bk.new w 41 _
  have p0 : W.cell? ⟨w.heap.size, 0, none⟩ = some (.int .i64 (s : Int)) := hpb.cell 0
  have p1 : W.cell? ⟨w.heap.size, 1, none⟩ = some (.slice (some ⟨gb, 0, none⟩) 64 64) := hpb.cell 1
  have h1 := h.below hb1
  obtain ⟨bm0, hW0⟩ := h1.noslotW (s := (s : Int)) (fun p hp e => hno p hp (by omega)) (I64_nat hs')
  have hWW : ∀ n, (Instr.lookup 60 (.map (some bm0)) (.int .i64 (s : Int)) false).run Try.prog (W.drewN n) = .ok (.pointer none) (W.drewN n) := fun n => (hW0 (W.drewN n) fun _ _ => rfl).1
  have c2 := (hW0 W fun _ _ => rfl).2
  obtain ⟨pb, hp⟩ : ∃ pb, pb = w.heap.size := ⟨_, rfl⟩
  have H1 := Lib.hid h1
  have Hh := Lib.hid hh
  have HF := Lib.hid F
  have Hk := Lib.hid hk
  have Hb1 := Lib.hid hb1
  rw [← hp] at p0 p1
  have Hp := Lib.hid hp
  have HWd := Lib.hid hWd
  clear h F hs hno hk hs' hh hW0 hpb hb1 hp hWd h1
  go_enter Try.func14, Try.ntmps14
  go_wp2_with fail
  rw [← HWd.out, ← Hp.out]
  refine (creach_any H1.out (s : Int)).mono ?_
  rintro e W' ⟨rfl, rfl⟩
  rw [Hh.out, if_pos rfl]
  go_wp2
  go_quiet (fail)
  have HV : Hid (Below w.heap.size w (W.drewN nq)) := ⟨Hb1.out.os, Hb1.out.tape, Hb1.out.output, Hb1.out.size, Hb1.out.block⟩
  have HVB : Hid (Both (W.drewN nq) S b bd room (keysI L) L k) := H1.out.keep fun _ _ => rfl
  clear hWW p0 p1 c2
  generalize W.drewN nq = V at HV HVB ⊢
  go_wp2_with fail
  refine (room_none HVB.out HF.out Hk.out).mono ?_
  rintro e V2 ⟨rfl, hT⟩
  have T := Lib.hid hT
  clear hT
  go_wp2
  go_ret
  exact ⟨rfl, BTurned.trans (Kept.of_below HV.out) (fun j hj => .inl hj) T.out⟩

set_option maxRecDepth 100000 in
/-- Put of a sector that there is not. -/
theorem put_bad (h : Both w S b bd room O L k) {s : Int} (v1 v2 : Value) (hs : k.has s = false) :
    Calls Try.prog 14 #[.pointer (some ⟨b, 0, none⟩), .agg #[.int .i64 s, v1, v2]] w fun e w' => e = .returned (.int .i64 1) ∧ Below w.heap.size w w' := by
  have H1 := Lib.hid (h.below ((Below.refl _ w).alloc (Nat.le_refl _) (.cells #[.int .i64 s, v1, v2] 41)))
  have Hb1 := Lib.hid ((Below.refl _ w).alloc (Nat.le_refl _) (.cells #[.int .i64 s, v1, v2] 41))
  have Hh := Lib.hid hs
  clear h hs
  go_enter Try.func14, Try.ntmps14
  go_wp2_with (go_at_call 24; refine (creach_any H1.out s).mono ?_; rintro e W' ⟨rfl, rfl⟩; rw [Hh.out, if_neg (by decide)])
  go_ret
  exact ⟨rfl, Hb1.out⟩
set_option maxRecDepth 100000 in
theorem cput_nil (w : World) (s : Int) (v1 v2 : Value) :
    Calls Try.prog 14 #[.pointer none, .agg #[.int .i64 s, v1, v2]] w fun e w' => e = .returned (.int .i64 2) ∧ Below w.heap.size w w' := by
  have Hb1 := Lib.hid ((Below.refl _ w).alloc (Nat.le_refl _) (.cells #[.int .i64 s, v1, v2] 41))
  go_enter Try.func14, Try.ntmps14
  go_wp2_with (go_at_call 24; refine (creach_nil _ _).mono ?_; rintro e W' ⟨rfl, rfl⟩)
  go_ret
  exact ⟨rfl, Hb1.out⟩
end
end Go.Proofs.Ytnmfpgeojggjbaa
