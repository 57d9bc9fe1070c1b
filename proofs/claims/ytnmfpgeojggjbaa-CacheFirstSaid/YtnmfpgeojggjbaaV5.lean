/-
  A new cache; what is cached; what is dirty.
-/
import Derived.Test.YtnmfpgeojggjbaaV4
namespace Go.Proofs.Ytnmfpgeojggjbaa
open Go.RowKit Go.Maps
attribute [local go_sem ↓] Go.wp_at_zero Go.wp_at_succ

section
variable {N : Nat} {w w' : World} {S : Nat → Prop} {b bd room bm : Nat} {vo : Value} {O : List Int} {L L1 L' : List (Nat × Sl)} {E E' : List En} {k k1 k' : Dk Nat}

set_option maxRecDepth 100000 in
theorem cnew_any (w : World) (bd room : Nat) (h0 : 1 ≤ room) (h1 : room ≤ 4096) :
    Calls Try.prog 10 #[.pointer (some ⟨bd, 0, none⟩), .int .i64 (room : Int)] w fun e w' => ∃ b Sc, e = .returned (.tuple #[.pointer (some ⟨b, 0, none⟩), .int .i64 0]) ∧ Below w.heap.size w w' ∧ CM w' Sc b bd room (keysI []) [] ∧ ∀ i, Sc i → w.heap.size ≤ i := by
  have h2 : ¬ ((room : Int) < 1) := by omega
  have h3 : ¬ ((4096 : Int) < (room : Int)) := by omega
  have hmm := @run_makeMap Try.prog
  go_enter Try.func10, Try.ntmps10
  go_wp2
  all_goals first | (exfalso; omega) | skip
  go_ret2
  have hM := MapIs.made w ptrR ptrD none
  have e1 : (w.alloc (.map #[] 0)).heap.size = w.heap.size + 1 := by simp
  have hB := Bk.new (w.alloc (.map #[] 0)) 62 [.pointer (some ⟨bd, 0, none⟩), .int .i64 (room : Int), .map (some w.heap.size), .slice none 0 0]
  rw [e1] at hB
  refine ⟨w.heap.size + 1, rfl, ((Below.refl _ w).alloc (Nat.le_refl _) _).alloc (by rw [e1]; omega) _, _, ⟨w.heap.size, .slice none 0 0, [], rfl, ⟨hB, (hM.keep (Below.heap_alloc _ _ _ hM.lt)).as (fun _ => rfl) (fun _ => rfl) rfl, Ints.nil _ _, fun e he => (by cases he), (by simp), (by simp)⟩, rfl⟩, fun i hi => ?_⟩
  rcases hi with rfl | rfl | hi | hi
  · omega
  · omega
  · cases hi
  · cases hi
theorem cnew_nil (w : World) (room : Int) : Calls Try.prog 10 #[.pointer none, .int .i64 room] w fun e w' => e = .returned (.tuple #[.pointer none, .int .i64 2]) ∧ w = w' := by
  go_enter Try.func10, Try.ntmps10
  go_wp2
  go_ret2
  exact ⟨rfl, rfl⟩

theorem has_cached (hc : CM w S b bd room (keysI L) L) (hl : L.length ≤ 10000) :
    Calls Try.prog 18 #[.pointer (some ⟨b, 0, none⟩)] w fun e w' => ∃ v, e = .returned v ∧ Ints w' w.heap.size v (keysI L).reverse ∧ Below w.heap.size w w' := by
  obtain ⟨bm, vo, E, rfl, hm, hLE⟩ := hc
  have c3 := hm.c3
  have M := Lib.hid hm
  have Hl : Hid ((keysI L).length ≤ 1000000) := by unfold Hid; simp [keysI]; omega
  clear hm hLE hl
  go_enter Try.func18, Try.ntmps18
  go_wp2_with (first
    | (go_at_call 30; refine (clone_any M.out.ord Hl.out).mono ?_; rintro e w1 ⟨v1, rfl, hI, hb⟩; have HI := Lib.hid hI; have Hb := Lib.hid hb; clear hI hb)
    | (go_at_call 31; refine (reverse_any HI.out).mono ?_; rintro e w2 ⟨rfl, hI2, hg2⟩; have HI2 := Lib.hid hI2; have Hg2 := Lib.hid hg2; clear hI2 hg2))
  go_ret
  exact ⟨v1, rfl, HI2.out, Hb.out.grown Hg2.out Hb.out.size fun j hj => (HI.out.lt hj).2.1⟩
theorem has_cnil (w : World) : Calls Try.prog 18 #[.pointer none] w fun e w' => e = .returned (.slice none 0 0) ∧ w = w' := by
  go_enter Try.func18, Try.ntmps18
  go_wp2
  go_ret
  exact ⟨rfl, rfl⟩
theorem dirty_nil (w : World) : Calls Try.prog 20 #[.pointer none] w fun e w' => e = .returned (.slice none 0 0) ∧ w = w' := by
  go_enter Try.func20, Try.ntmps20
  go_wp2
  go_ret
  exact ⟨rfl, rfl⟩
theorem cflush_nil (w : World) : Calls Try.prog 17 #[.pointer none] w fun e w' => e = .returned (.int .i64 2) ∧ w = w' := by
  go_enter Try.func17, Try.ntmps17
  go_wp2
  go_ret
  exact ⟨rfl, rfl⟩

/-- What was gathered of the dirty ones, once those are left. -/
structure Gath (E : List En) (left : Lit → Bool) (cnt : Nat) (l : List Int) : Prop where
  nodup : l.Nodup
  mem : ∀ s : Int, s ∈ l ↔ left (keyL s) = false ∧ ∃ e ∈ E, (e.s : Int) = s ∧ e.x.dirty = true
  left : ∀ s : Int, left (keyL s) = true → hasKey (E.map En.sg) s = true
  len : l.length + cnt ≤ E.length
theorem Gath.step {left : Lit → Bool} {cnt cnt' : Nat} {l : List Int} (h : Gath E left cnt l) (hn : (E.map (·.s)).Nodup) {e : En} (he : e ∈ E) (hl : left (keyL (e.s : Int)) = true) (hc : cnt' < cnt) :
    Gath E (fun z => left z && !z.sameKey (keyL (e.s : Int))) cnt' (if e.x.dirty then l ++ [(e.s : Int)] else l) := by
  have hne : ∀ s : Int, (left (keyL s) && !(keyL s).sameKey (keyL (e.s : Int))) = (left (keyL s) && !decide (s = (e.s : Int))) := fun s => by rw [keyL_same]
  have huniq : ∀ d ∈ E, (d.s : Int) = (e.s : Int) → d = e := fun d hd h => by
    obtain ⟨i, hi, rfl⟩ := List.getElem_of_mem hd
    obtain ⟨j, hj, rfl⟩ := List.getElem_of_mem he
    obtain rfl := nodup_inj hn (i := i) (j := j) (by simpa using hi) (by simpa using hj) (by simp; omega)
    rfl
  have hno : (e.s : Int) ∉ l := fun hm => by
    have := ((h.mem _).1 hm).1
    rw [hl] at this
    cases this
  refine ⟨?_, fun s => ?_, fun s hs => h.left s ?_, ?_⟩
  · split
    · rw [List.nodup_append]
      exact ⟨h.nodup, by simp, fun a ha c hc e1 => by
        obtain rfl : c = (e.s : Int) := by simpa using hc
        subst e1
        exact hno ha⟩
    · exact h.nodup
  · simp only [hne]
    by_cases hs : s = (e.s : Int)
    · subst hs
      simp only [hl, decide_true, Bool.not_true, Bool.and_false, true_and]
      constructor
      · intro hm
        split at hm
        · rename_i hd
          exact ⟨e, he, rfl, hd⟩
        · exact absurd hm hno
      · rintro ⟨d, hd, h1, h2⟩
        obtain rfl := huniq d hd h1
        rw [h2]; simp
    · simp only [hs, decide_false, Bool.not_false, Bool.and_true]
      rw [← h.mem s]
      split
      · simp [hs]
      · rfl
  · simp only [Bool.and_eq_true] at hs
    exact hs.1
  · have := h.len
    split
    · simp; omega
    · omega
theorem Gath.end_ {left : Lit → Bool} {cnt : Nat} {l : List Int} (h : Gath E left cnt l) (hn : (E.map (·.s)).Nodup) (hl : ∀ kl, left kl = false) : l.Perm (keysI ((E.map En.sx).filter fun p => p.2.dirty)) := by
  have hk : (keysI ((E.map En.sx).filter fun p => p.2.dirty)).Nodup := by
    refine keys_nodup ?_
    have : ((E.map En.sx).map (·.1)).Nodup := by rw [List.map_map]; exact hn
    exact ((List.filter_sublist).map _).nodup this
  rw [List.perm_ext_iff_of_nodup h.nodup hk]
  intro s
  rw [h.mem s]
  simp only [hl, true_and, keysI, List.mem_map, List.mem_filter]
  constructor
  · rintro ⟨e, he, h1, h2⟩
    exact ⟨e.sx, ⟨⟨e, he, rfl⟩, h2⟩, h1⟩
  · rintro ⟨p, ⟨⟨e, he, rfl⟩, h2⟩, h1⟩
    exact ⟨e, he, h1, h2⟩

set_option maxRecDepth 100000 in
set_option maxHeartbeats 1600000 in
theorem dirty_any (hc : CM w S b bd room O L) (hl : L.length ≤ 10000) :
    Calls Try.prog 20 #[.pointer (some ⟨b, 0, none⟩)] w fun e w' => ∃ v l, e = .returned v ∧ Ints w' w.heap.size v l ∧ l.Perm (keysI (L.filter fun p => p.2.dirty)) ∧ Below w.heap.size w w' := by
  obtain ⟨bm, vo, E, rfl, hm, rfl⟩ := hc
  have c2 := hm.c2
  have M := Lib.hid hm
  obtain ⟨D, hD1, hD2, hD3, hD4⟩ := hm.map
  have HD1 := Lib.hid hD1
  have HD2 := Lib.hid hD2
  have HD3 := Lib.hid hD3
  have HD4 := Lib.hid hD4
  have Hl : Hid (E.length ≤ 10000) := by unfold Hid; simpa using hl
  clear hm hl hD1 hD2 hD3 hD4
  go_enter Try.func20, Try.ntmps20
  go_wp2_with (at_range; refine wpList_range_own _ rfl _ 60 rfl 3 63 key3 Try.underlying60 ptrR bm E.length D rfl HD1.out ?_; intro w0 hrg0 hg0 hs0)
  have Hw0 : Hid (Below w.heap.size w w0) := ⟨hg0.os, hg0.tape, hg0.output, hg0.size, fun j hj => hg0.block j hj (by simp)⟩
  obtain ⟨r, hr⟩ : ∃ r, r = w.heap.size := ⟨_, rfl⟩
  rw [← hr] at hrg0
  have Hrg0 := Lib.hid hrg0
  have Hr := Lib.hid hr
  have hst2 : ∀ s : Int, s ∈ ([] : List Int) ↔ has D (keyL s) = false ∧ ∃ e ∈ E, (e.s : Int) = s ∧ e.x.dirty = true := fun s => by
    rw [HD3.out]
    constructor
    · intro h
      cases h
    · rintro ⟨h1, e, he, h2, h3⟩
      have : hasKey (E.map En.sg) s = true := hasKey_iff.2 ⟨e.sg, List.mem_map.2 ⟨e, he, rfl⟩, h2⟩
      rw [h1] at this
      cases this
  have Hst : Hid (Gath E (has D) (size D) []) := ⟨List.nodup_nil, hst2, fun s hs => (by rw [← HD3.out]; exact hs), by have := HD4.out; simp; omega⟩
  clear hrg0 hg0 hs0 hr c2 hst2
  go_frame
  rw [← Hr.out]
  go_loopw [3, 4, 5, 13, 14] (fun v3 _ _ _ _ wr => ∃ left cnt l, wr.ranges Try.prog 3 ptrR bm r E.length D left cnt ∧ Ints wr w.heap.size v3 l ∧ Gath E left cnt l ∧ Below w.heap.size w wr) (fun _ _ _ _ _ wr => wr.rangeLeft bm r)
  case atStart => exact ⟨_, _, [], Hrg0.out, Ints.nil _ _, Hst.out, Hw0.out⟩
  case round =>
    obtain ⟨left, cnt, l, hrg, hI, hG, hb⟩ := hrel
    have HG := Lib.hid hG
    have Hb := Lib.hid hb
    have HI := Lib.hid hI
    have Hrg := Lib.hid hrg
    clear hG hb hI hrg
    go_wp2_with (at_next; refine wpList_next_ranges (α := Int) (β := Option Nat) _ rfl _ rfl 3 key3 ptrR (Value.int .i64) ptrV (fun key kl hk => by obtain ⟨x, hx, _⟩ := keyOf_int_inv Try.underlying3 hk; exact ⟨x, hx⟩) (fun v y hv => by obtain ⟨o, ho, _⟩ := ptrE.inv v y hv; exact ⟨o, ho⟩) bm r E.length D left cnt rfl Hrg.out ?_ ?_)
    · intro hc0 hl0
      have Hl0 := Lib.hid hl0
      have Hll : Hid (l.length ≤ 1000000) := by have := HG.out.len; have := Hl.out; unfold Hid; omega
      clear hl0 hc0
      go_wp2_with (go_at_call 33; refine (sort_any HI.out Hll.out).mono ?_; rintro e w3 ⟨l2, rfl, hp, hI3, hg3⟩; have HI3 := Lib.hid hI3; have Hg3 := Lib.hid hg3; have Hp := Lib.hid hp; clear hI3 hg3 hp)
      go_ret
      exact ⟨_, l2, rfl, HI3.out, Hp.out.trans (HG.out.end_ M.out.ss Hl0.out), Hb.out.grown Hg3.out Hb.out.size fun j hj => (HI.out.lt hj).2.1⟩
    · intro x o kl yd yp w2 cnt2 hkey hlk hv hat hrg2 hlt hg2 hs2 hen
      obtain ⟨x', ex, rfl, hwx⟩ := keyOf_int_inv Try.underlying3 hkey
      cases ex
      obtain ⟨p, hp, hpx⟩ := hasKey_iff.1 (HG.out.left x hlk)
      obtain ⟨e, he, rfl⟩ := List.mem_map.1 hp
      have hpx' : (e.s : Int) = x := hpx
      subst hpx'
      have ho : o = some e.g := by
        have e1 := hat (ptrD none)
        rw [show (Lit.int IntKind.i64 (e.s : Int)) = keyL (e.s : Int) from rfl, HD2.out, M.out.at_ he] at e1
        have e2 := ptrE.make o trivial
        rw [hv] at e2
        injection e2 with e2
        injection e2 with e3 _
        have e4 : ptrD (some e.g) = ptrD o := e1.trans e3
        exact (ptrE.inj _ _ e4).symm
      subst ho
      change _ = Result.ok (Value.tuple #[Value.int IntKind.i64 (e.s : Int), Value.pointer (some ⟨e.g, 0, none⟩)]) w2 at hen
      have hglt := (M.out.sl e he).lt
      have hBe : Bk w2 e.g 67 e.x.cells := by
        have h1 := (M.out.sl e he).below Hb.out hglt
        refine (hg2.block e.g h1.lt fun e1 => ?_).trans h1
        injection e1 with e1
        have := Hr.out
        omega
      have hne : ∀ j, u3.ownBlock = some j → j ≠ r := fun j hj e1 => by
        obtain ⟨_, _, cur, hc⟩ := HI.out.lt hj
        subst e1
        obtain ⟨es, clock, since, seen, c0, _, _, _, _, hr, _⟩ := Hrg.out
        rw [hc] at hr
        cases hr
      have hnb : ∀ j, u3.ownBlock = some j → j ≠ bm := fun j hj e1 => by
        have h1 := (HI.out.lt hj).2.1
        have h2 := M.out.map.lt
        omega
      have hI2 : Ints w2 w.heap.size u3 l := HI.out.keep fun j hj => hg2.block j (HI.out.lt hj).1 fun e1 => hne j hj (by injection e1)
      have hb2 : Below w.heap.size w w2 := Hb.out.grown hg2 Hb.out.size fun j hj => by cases hj; have := Hr.out; omega
      have hG2 := HG.out.step M.out.ss he hlk hlt
      have c65 := (hBe.cell 65).trans (Sl.get65 e.x)
      have hms : w2.rangeLeft bm r < wr.rangeLeft bm r := by rw [hrg2.left_eq, Hrg.out.left_eq]; exact hlt
      have HI2 := Lib.hid hI2
      have Hb2 := Lib.hid hb2
      have Hrg2 := Lib.hid hrg2
      have Hms := Lib.hid hms
      have Hne := Lib.hid hne
      have Hnb := Lib.hid hnb
      have Hll : Hid (l.length ≤ 1000000) := by have := HG.out.len; have := Hl.out; unfold Hid; omega
      have Hleft := Hrg.out.left_eq
      clear hI2 hb2 hrg2 hms hBe hkey hlk hv hat hlt hg2 hs2 hp hpx hwx hne hnb HG
      have hd : e.x.dirty = true ∨ e.x.dirty = false := by cases e.x.dirty <;> simp
      rcases hd with hd | hd
      · rw [hd] at c65
        rw [hd, if_pos rfl] at hG2
        have HG2 := Lib.hid hG2
        clear hG2 hd
        obtain ⟨es, hes⟩ : ∃ es, es = e.s := ⟨_, rfl⟩
        obtain ⟨eg, heg⟩ : ∃ eg, eg = e.g := ⟨_, rfl⟩
        have Hes := Lib.hid hes
        rw [← heg, ← hes] at hen
        rw [← heg] at c65
        clear hes heg
        go_wp2_with (at_builtin; refine wpList_snoc _ rfl (.tmp 22) (.tmp 24) rfl w.heap.size u3 l rfl (HI2.out.below ((Below.refl _ _).alloc (Nat.le_refl _) _)) _ (es : Int) rfl (Bk.cell (Bk.new _ 3 [.int .i64 (es : Int)]) 0) Hll.out (Nat.le_trans Hb2.out.size (by simp)) ?_; intro v' w3 hI3 hg3 hl3; have HI3 := Lib.hid hI3; have Hg3 := Lib.hid hg3; clear hI3 hg3 hl3)
        have hrg3 := (Hrg2.out.alloc (.cells #[.int .i64 (es : Int)] 3)).kept Hg3.out (fun e1 => Hnb.out bm e1.symm rfl) fun e1 => Hne.out r e1.symm rfl
        have hb3 : Below w.heap.size w w3 := (Hb2.out.alloc Hb2.out.size (.cells #[.int .i64 (es : Int)] 3)).grown Hg3.out (by simp; exact Nat.le_succ_of_le Hb2.out.size) fun j hj => (HI.out.lt hj).2.1
        have hG3 := HG2.out
        have hee : (Lit.int IntKind.i64 (e.s : Int)) = keyL (es : Int) := by rw [Hes.out]; rfl
        rw [hee] at hrg3
        rw [← Hes.out] at hG3
        refine ⟨⟨_, cnt2, _, hrg3, HI3.out, hG3, hb3⟩, ?_⟩
        rw [hrg3.left_eq, ← Hrg2.out.left_eq]
        exact Hms.out
      · rw [hd] at c65
        rw [hd, if_neg (by decide)] at hG2
        have HG2 := Lib.hid hG2
        clear hG2 hd
        go_wp2
        go_roundw
        case rel => exact ⟨_, cnt2, l, Hrg2.out, HI2.out, HG2.out, Hb2.out⟩
        case measure => exact Hms.out
end
end Go.Proofs.Ytnmfpgeojggjbaa
