/-
  The small calls of a cache: whether a sector can be reached, the order of use, cleaning a slot.
-/
import Derived.Test.YtnmfpgeojggjbaaE
import Derived.BigQuiet
import Derived.Deep.QuietTactic
import Derived.RegionTactic
import Derived.BigRegion
import Derived.Deep.RegionHeld3
namespace Go.Proofs.Ytnmfpgeojggjbaa
open Go.RowKit
attribute [local go_sem ↓] Go.wp_at_zero Go.wp_at_succ

section
variable {w : World} {S : Nat → Prop} {b bd room : Nat} {O : List Int} {L : List (Nat × Sl)} {k : Dk Nat}

theorem creach_any (h : Both w S b bd room O L k) (s : Int) :
    Calls Try.prog 24 #[.pointer (some ⟨b, 0, none⟩), .int .i64 s] w fun e w' => e = .returned (.int .i64 (if k.has s then 0 else 1)) ∧ w = w' := by
  obtain ⟨Sc, Sd, rfl, ⟨bm, vo, E, rfl, hm, rfl⟩, hd⟩ := h
  have c0 := hm.c0
  have D := Lib.hid hd
  clear hm hd
  unfold Dk.has
  obtain ⟨n, hn⟩ : ∃ n, n = k.safe.length := ⟨_, rfl⟩
  rw [← hn]
  have Hn := Lib.hid hn
  clear hn
  by_cases h0 : 0 ≤ s
  · by_cases h1 : s < n
    · have hv : (if (decide (0 ≤ s) && decide (s < (n : Int))) = true then (0 : Int) else 1) = 0 := by simp [h0, h1]
      rw [hv]
      clear hv
      have h2 : ¬ ((n : Int) ≤ s) := by omega
      have h3 : ¬ (s < 0) := by omega
      go_enter Try.func24, Try.ntmps24
      go_wp2_with (go_at_call 35; refine (len_any _ _ _ k D.out).mono ?_; rintro e w' ⟨rfl, rfl⟩; rw [← Hn.out])
      all_goals first | (exfalso; omega) | (go_ret; exact ⟨rfl, rfl⟩)
    · have hv : (if (decide (0 ≤ s) && decide (s < (n : Int))) = true then (0 : Int) else 1) = 1 := by simp [h1]
      rw [hv]
      clear hv
      have h2 : (n : Int) ≤ s := by omega
      have h3 : ¬ (s < 0) := by omega
      go_enter Try.func24, Try.ntmps24
      go_wp2_with (go_at_call 35; refine (len_any _ _ _ k D.out).mono ?_; rintro e w' ⟨rfl, rfl⟩; rw [← Hn.out])
      all_goals first | (exfalso; omega) | (go_ret; exact ⟨rfl, rfl⟩)
  · have hv : (if (decide (0 ≤ s) && decide (s < (n : Int))) = true then (0 : Int) else 1) = 1 := by simp [h0]
    rw [hv]
    clear hv
    have h3 : s < 0 := by omega
    go_enter Try.func24, Try.ntmps24
    go_wp2
    all_goals first | (exfalso; omega) | (go_ret; exact ⟨rfl, rfl⟩)

theorem creach_nil (w : World) (s : Int) : Calls Try.prog 24 #[.pointer none, .int .i64 s] w fun e w' => e = .returned (.int .i64 2) ∧ w = w' := by
  go_enter Try.func24, Try.ntmps24
  go_wp2
  go_ret
  exact ⟨rfl, rfl⟩

theorem cell_new_set (w : World) (a : Addr) (u x : Value) (t : TypeId) : ((w.setCell a u).alloc (.cells #[x] t)).cell? ⟨w.heap.size, 0, none⟩ = some x := by
  have h : (w.setCell a u).heap.size = w.heap.size := by simp [World.setCell]
  have := Bk.cell (Bk.new (w.setCell a u) t [x]) 0
  rw [h] at this
  exact this
theorem Ints.any {w : World} {base : Nat} {v : Value} {l : List Int} (h : Ints w base v l) : ∃ A n c, v = .slice A n c := by
  obtain ⟨A, c, h, _⟩ := h.len
  exact ⟨A, _, c, h⟩

/-- The end of use: a sector goes behind the others. -/
theorem CM.push {w w1 w2 : World} {bm : Nat} {vo v' : Value} {E : List En} {O : List Int} {s : Int} (hm : CMem w b bd room bm vo O E) (hb : Below w.heap.size w w1) (h : Ints w2 0 v' (O ++ [s])) (hg : w1.grownBy w2 vo.ownBlock) (hl : v'.ownBlock = vo.ownBlock ∨ v'.ownBlock = some w1.heap.size) :
    Kept (cfoot b bm vo (E.map (·.g))) w (w2.setCell ⟨b, 3, none⟩ v') ∧ CM (w2.setCell ⟨b, 3, none⟩ v') (cfoot b bm v' (E.map (·.g))) b bd room (O ++ [s]) (E.map En.sx) ∧ ∀ i, cfoot b bm v' (E.map (·.g)) i → cfoot b bm vo (E.map (·.g)) i ∨ w.heap.size ≤ i := by
  have hm1 := hm.keep (w' := w1) fun i hi => hb.block i (hm.lt hi)
  refine ⟨?_, ⟨bm, v', E, rfl, hm1.reorder hg h, rfl⟩, ?_⟩
  · have k1 : Kept (cfoot b bm vo (E.map (·.g))) w w1 := Kept.of_below hb
    have k2 : Kept (cfoot b bm vo (E.map (·.g))) w1 w2 := Kept.of_grown hg fun i hi => .inr (.inr (.inl hi))
    have k3 : Kept (cfoot b bm vo (E.map (·.g))) w2 (w2.setCell ⟨b, 3, none⟩ v') := Kept.of_grown (only_set (World.grownBy.refl w2 (some b)) 3 v') fun i hi => .inl (by injection hi with hi; exact hi.symm)
    exact (k1.trans k2 fun i hi => .inl hi).trans k3 fun i hi => .inl hi
  · rintro i (rfl | rfl | hi | hi)
    · exact .inl (.inl rfl)
    · exact .inl (.inr (.inl rfl))
    · rcases hl with hl | hl
      · exact .inl (.inr (.inr (.inl (hl ▸ hi))))
      · rw [hl] at hi
        injection hi with hi
        have := hb.size
        exact .inr (by omega)
    · exact .inl (.inr (.inr (.inr hi)))

set_option maxRecDepth 100000 in
set_option maxHeartbeats 800000 in
theorem use_any (h : Both w S b bd room O L k) (s : Int) (hO : O.length ≤ 100000) :
    Calls Try.prog 26 #[.pointer (some ⟨b, 0, none⟩), .int .i64 s] w fun e w' => e = .returned (.tuple #[]) ∧ BTurned S w w' b bd room (O.erase s ++ [s]) L k := by
  obtain ⟨Sc, Sd, rfl, hc, hd⟩ := h
  obtain ⟨bm, vo, E, rfl, hm, rfl⟩ := id hc
  have D := Lib.hid hd
  have C := Lib.hid hc
  have M := Lib.hid hm
  have c3 := hm.c3
  have f3 := hm.blk.frozen 3
  have fin : ∀ w', (Kept (cfoot b bm vo (E.map (·.g))) w w' ∧ ∃ v', CM w' (cfoot b bm v' (E.map (·.g))) b bd room (O.erase s ++ [s]) (E.map En.sx) ∧ ∀ i, cfoot b bm v' (E.map (·.g)) i → cfoot b bm vo (E.map (·.g)) i ∨ w.heap.size ≤ i) →
      BTurned (fun i => cfoot b bm vo (E.map (·.g)) i ∨ Sd i) w w' b bd room (O.erase s ++ [s]) (E.map En.sx) k := fun w' ⟨h1, v', h2, h3⟩ => BTurned.cache C.out D.out h1 h2 h3
  have Fin := Lib.hid fin
  clear hc hd hm fin
  by_cases hs : s ∈ O
  · obtain ⟨A, B, rfl, hA⟩ := List.eq_append_cons_of_mem hs
    have he : (A ++ s :: B).erase s = A ++ B := by rw [List.erase_append_right _ hA, List.erase_cons_head]
    have hx := idx_some A B s hA
    have He := Lib.hid he
    have Hx := Lib.hid hx
    have hAl : A.length ≤ 100000 := by simp at hO; omega
    have hBl : Hid ((A ++ B).length ≤ 1000000) := by unfold Hid; simp at hO ⊢; omega
    have hw : wrap64 ((A.length : Int) + 1) = (A.length : Int) + 1 := by unfold wrap64; omega
    have hge : ¬ ((A.length : Int) < 0) := by omega
    clear hs he hx hA hO
    go_enter Try.func26, Try.ntmps26
    go_wp2_with (first
      | (go_at_call 36; refine (index_any s M.out.ord).mono ?_; rintro e w' ⟨rfl, rfl⟩; rw [Hx.out])
      | (go_at_call 37; refine (delete_any A B s M.out.ord _ rfl).mono ?_; rintro e w1 ⟨v1, rfl, hv1, hI1, hg1⟩; obtain ⟨A1, n1, cap1, rfl⟩ := hI1.any; have hB1 : Bk w1 b 62 _ := (hg1.block b M.out.blk.lt fun e => M.out.o_b e.symm rfl).trans M.out.blk; have c31 := hB1.cell 3; have f31 := hB1.frozen 3; have M1 := Lib.hid (M.out.reorder hg1 hI1); have K1 := Lib.hid hg1; have Hv1 := Lib.hid hv1; have c3n := M1.out.c3; have f3n := M1.out.blk.frozen 3; clear hB1 hI1 hg1 hv1)
      | (at_builtin; refine wpList_snoc _ rfl (.tmp 28) (.tmp 30) rfl 0 _ (A ++ B) rfl (M1.out.ord.below ((Below.refl _ _).alloc (Nat.le_refl _) _)) _ s rfl (cell_new_set _ _ _ _ _) hBl.out (Nat.zero_le _) ?_; intro v' w2 hI hg hl; obtain ⟨Av, nv, cv, rfl⟩ := hI.any; have hB2 : Bk w2 b 62 _ := (hg.block b (by simpa using Nat.lt_succ_of_lt M1.out.blk.lt) fun e => M1.out.o_b e.symm rfl).trans (M1.out.blk.below ((Below.refl _ _).alloc (Nat.le_refl _) _) M1.out.blk.lt); have c32 := hB2.cell 3; have f32 := hB2.frozen 3; have HI := Lib.hid hI; have Hg := Lib.hid hg; have Hl := Lib.hid hl; clear hI hg hl hB2))
    go_end0
    refine ⟨rfl, Fin.out _ ?_⟩
    rw [He.out]
    have := CM.push M1.out ((Below.refl _ _).alloc (Nat.le_refl _) _) HI.out Hg.out Hl.out
    have k1 := Kept.of_grown (S := cfoot b bm vo (E.map (·.g))) K1.out fun i hi => .inr (.inr (.inl hi))
    have k2 := k1.trans (Kept.of_grown (S := cfoot b bm vo (E.map (·.g))) (only_set (World.grownBy.refl _ (some b)) 3 (.slice A1 n1 cap1)) fun i hi => .inl (by injection hi with hi; exact hi.symm)) fun i hi => .inl hi
    have hsub : ∀ i, cfoot b bm (.slice A1 n1 cap1) (E.map (·.g)) i → cfoot b bm vo (E.map (·.g)) i := by
      rintro i (h | h | h | h)
      · exact .inl h
      · exact .inr (.inl h)
      · exact .inr (.inr (.inl (Hv1.out ▸ h)))
      · exact .inr (.inr (.inr h))
    refine ⟨k2.trans this.1 fun i hi => .inl (hsub i hi), _, this.2.1, fun i hi => ?_⟩
    rcases this.2.2 i hi with h | h
    · exact .inl (hsub i h)
    · exact .inr (Nat.le_trans k2.size h)
  · have he : O.erase s = O := List.erase_of_not_mem hs
    have hx := idx_none O s hs
    have He := Lib.hid he
    have Hx := Lib.hid hx
    have HO := Lib.hid hO
    clear hs he hx hO
    go_enter Try.func26, Try.ntmps26
    go_wp2_with (first
      | (go_at_call 36; refine (index_any s M.out.ord).mono ?_; rintro e w' ⟨rfl, rfl⟩; rw [Hx.out])
      | (at_builtin; refine wpList_snoc _ rfl (.tmp 28) (.tmp 30) rfl 0 vo O rfl (M.out.ord.below ((Below.refl _ _).alloc (Nat.le_refl _) _)) _ s rfl (Bk.cell (Bk.new _ 3 [.int .i64 s]) 0) (Nat.le_trans HO.out (by decide)) (Nat.zero_le _) ?_; intro v' w2 hI hg hl; obtain ⟨Av, nv, cv, rfl⟩ := hI.any; have hB2 : Bk w2 b 62 _ := (hg.block b (by simpa using Nat.lt_succ_of_lt M.out.blk.lt) fun e => M.out.o_b e.symm rfl).trans (M.out.blk.below ((Below.refl _ _).alloc (Nat.le_refl _) _) M.out.blk.lt); have c32 := hB2.cell 3; have f32 := hB2.frozen 3; have HI := Lib.hid hI; have Hg := Lib.hid hg; have Hl := Lib.hid hl; clear hI hg hl hB2))
    go_end0
    refine ⟨rfl, Fin.out _ ?_⟩
    rw [He.out]
    have := CM.push M.out ((Below.refl _ _).alloc (Nat.le_refl _) _) HI.out Hg.out Hl.out
    exact ⟨this.1, _, this.2.1, this.2.2⟩

theorem Sl.set64 (x : Sl) (t : Nat) : x.cells.set 64 (.int .u16 (t : Int)) = Sl.cells { x with tag := t } := by
  unfold Sl.cells
  rw [List.set_append_right _ _ (by rw [same_length]; exact Nat.le_refl _), same_length]; rfl
theorem Sl.set65 (x : Sl) (d : Bool) : x.cells.set 65 (.bool d) = Sl.cells { x with dirty := d } := by
  unfold Sl.cells
  rw [List.set_append_right _ _ (by rw [same_length]; omega), same_length]; rfl
theorem Sl.set66 (x : Sl) (n : Nat) : x.cells.set 66 (.int .i64 (n : Int)) = Sl.cells { x with pins := n } := by
  unfold Sl.cells
  rw [List.set_append_right _ _ (by rw [same_length]; omega), same_length]; rfl

/-- What cleaning makes of a slot, and of the disk. -/
def cleanS (x : Sl) : Sl := { x with dirty := false }
def cleanK (k : Dk Nat) (s : Nat) (x : Sl) : Dk Nat := if x.dirty then k.wrote s x.c else k

theorem en_at {E : List En} {i s : Nat} {x : Sl} (h : (E.map En.sx)[i]? = some (s, x)) : ∃ e, E[i]? = some e ∧ e.s = s ∧ e.x = x := by
  rw [List.getElem?_map] at h
  obtain ⟨e, he, h2⟩ := Option.map_eq_some_iff.1 h
  simp only [En.sx, Prod.mk.injEq] at h2
  exact ⟨e, he, h2.1, h2.2⟩
theorem set_self {α : Type} {l : List α} {i : Nat} {a : α} (h : l[i]? = some a) : l.set i a = l := by
  obtain ⟨hi, rfl⟩ := List.getElem?_eq_some_iff.1 h
  exact List.set_getElem_self hi

/-- A slot is another one: of both. -/
theorem BTurned.slot {Sd : Nat → Prop} {bm : Nat} {vo : Value} {E : List En} (hm : CMem w b bd room bm vo O E) (hd : IsDisk sec w Sd bd k) {i : Nat} {e : En} (he : E[i]? = some e) {x : Sl} {w' : World} (hK : w.grownBy w' (some e.g)) (hB : Bk w' e.g 67 x.cells) :
    BTurned (fun i => cfoot b bm vo (E.map (·.g)) i ∨ Sd i) w w' b bd room O ((E.map En.sx).set i (e.s, x)) k := by
  obtain ⟨hi, rfl⟩ := List.getElem?_eq_some_iff.1 he
  have hg : (E.set i { E[i] with x := x }).map (·.g) = E.map (·.g) := by
    rw [List.map_set]
    exact set_self (by simp [hi])
  refine BTurned.cache (Sc' := cfoot b bm vo (E.map (·.g))) ⟨bm, vo, E, rfl, hm, rfl⟩ hd (Kept.of_grown hK fun j hj => ?_) ⟨bm, vo, _, by rw [hg], hm.reslot hi hK hB, by rw [List.map_set]; rfl⟩ fun j hj => .inl hj
  injection hj with hj
  subst hj
  exact .inr (.inr (.inr (List.mem_map.2 ⟨_, List.getElem_mem hi, rfl⟩)))

set_option maxRecDepth 100000 in
set_option maxHeartbeats 1600000 in
theorem clean_any (h : Both w S b bd room O L k) {i s : Nat} {x : Sl} (hL : L[i]? = some (s, x)) (hs : s < k.safe.length) (hn : k.safe.length ≤ 4096) (ht : x.dirty = true → x.tag = x.c) (hoff : k.off = false) (hun : k.un.length ≤ 1073741824) :
    Calls Try.prog 28 #[.pointer (some ⟨b, 0, none⟩), .int .i64 (s : Int)] w fun e w' => e = .returned (.int .i64 0) ∧ BTurned S w w' b bd room O (L.set i (s, cleanS x)) (cleanK k s x) := by
  have h0 := h
  obtain ⟨Sc, Sd, rfl, hc, hd⟩ := h
  obtain ⟨bm, vo, E, rfl, hm, rfl⟩ := id hc
  obtain ⟨e, he, rfl, rfl⟩ := en_at hL
  have hmem := List.mem_of_getElem? he
  obtain ⟨s, g, x⟩ := e
  have hlk := hm.look (s : Int) (I64_nat (Nat.le_trans (Nat.le_of_lt hs) hn))
  rw [hm.at_ hmem] at hlk
  change _ = Result.ok (Value.pointer (some ⟨g, 0, none⟩)) w at hlk
  have hB : Bk w g 67 x.cells := hm.sl _ hmem
  have hsd : ¬ Sd g := hc.apart hd (.inr (.inr (.inr (List.mem_map.2 ⟨_, hmem, rfl⟩))))
  have c2 := hm.c2
  have c0 := hm.c0
  have c64 := (hB.cell 64).trans (Sl.get64 _)
  have c65 := (hB.cell 65).trans (Sl.get65 _)
  have D := Lib.hid hd
  have M := Lib.hid hm
  have HB := Lib.hid hB
  have C := Lib.hid hc
  have Hsd := Lib.hid hsd
  have Hs : Hid (s < k.safe.length) := hs
  have Hun := Lib.hid hun
  have Hoff := Lib.hid hoff
  have H0 := Lib.hid h0
  have HL := Lib.hid hL
  have He := Lib.hid he
  simp only at ht
  show Calls Try.prog 28 #[.pointer (some ⟨b, 0, none⟩), .int .i64 (s : Int)] w fun e w' => e = .returned (.int .i64 0) ∧ BTurned (fun i => cfoot b bm vo (E.map (·.g)) i ∨ Sd i) w w' b bd room O ((E.map En.sx).set i (s, cleanS x)) (cleanK k s x)
  cases hdi : x.dirty
  · have e1 : (E.map En.sx).set i (s, cleanS x) = E.map En.sx := set_self (by
      have : cleanS x = x := by cases x; simp only at hdi; subst hdi; rfl
      rw [this]; exact hL)
    have e2 : cleanK k s x = k := by simp [cleanK, hdi]
    rw [e1, e2]
    rw [hdi] at c65
    clear hc hm hd hL hB hsd hs hun hoff h0 ht hdi e1 e2 hn he hmem
    go_enter Try.func28, Try.ntmps28
    go_wp2
    go_ret
    exact ⟨rfl, H0.out.same⟩
  · have e2 : cleanK k s x = k.wrote s x.c := by simp [cleanK, hdi]
    rw [e2]
    rw [hdi] at c65
    have htt := ht hdi
    rw [htt] at c64
    have Htt := Lib.hid htt
    have hr : w.rangeAt g 0 (same x.c) := fun j v hj => by
      have hj' : j < 64 := by have := (List.getElem?_eq_some_iff.1 hj).1; rwa [same_length] at this
      rw [Nat.zero_add, hB.cell j, Sl.get_low x hj']
      rw [← hj]
      unfold same
      rw [List.getElem?_replicate, if_pos hj']
    have Hr := Lib.hid hr
    have Hlt := Lib.hid hB.lt
    clear hc hm hd hL hB hsd hs hun hoff h0 ht hdi e2 hn htt he hmem hr
    go_enter Try.func28, Try.ntmps28
    go_wp2
    go_region_held3 (fun w' : World => w'.cell? ⟨b, 0, none⟩ = some (.pointer (some ⟨bd, 0, none⟩)) ∧ w'.cell? ⟨g, 64, none⟩ = some (.int .u16 (x.c : Int)))
      (first | exact ⟨c0, c64⟩ | assumption)
      (first | (go_at_call 40; (refine (write_any sec_enc w.drew Sd bd k (D.out.keep fun _ _ => rfl) s Hs.out g 0 64 (same x.c) (x.c : Int) x.c rfl (same_length x.c) Hr.out Hsd.out Hlt.out Hun.out Hoff.out).mono ?_); rintro e w' ⟨rfl, hT⟩; have T := Lib.hid hT; have M1 := M.out.keep (w' := w') fun i hi => hT.1.block i (M.out.lt hi) (C.out.apart D.out hi); have c65' := ((M1.sl _ (List.mem_of_getElem? He.out)).cell 65).trans (Sl.get65 _); have f65' := (M1.sl _ (List.mem_of_getElem? He.out)).frozen 65; have hS : w'.cell? ⟨b, 0, none⟩ = some (.pointer (some ⟨bd, 0, none⟩)) ∧ w'.cell? ⟨g, 64, none⟩ = some (.int .u16 (x.c : Int)) := ⟨M1.c0, by have := ((M1.sl _ (List.mem_of_getElem? He.out)).cell 64).trans (Sl.get64 _); rw [Htt.out] at this; exact this⟩; replace M1 := Lib.hid M1; clear hT))
    go_wp2
    go_ret
    refine ⟨rfl, ?_⟩
    obtain ⟨hK, Sd', hd', hS'⟩ := T.out
    have hsl := BTurned.slot (Sd := Sd') M1.out hd' He.out (x := cleanS x) (w' := w'.setCell ⟨g, 65, none⟩ (.bool false)) (only_set (World.grownBy.refl _ (some g)) 65 _) (by
      have := (M1.out.sl _ (List.mem_of_getElem? He.out)).set 65 (.bool false)
      rw [Sl.set65] at this
      exact this)
    refine BTurned.trans (S1 := fun i => cfoot b bm vo (E.map (·.g)) i ∨ Sd' i) ⟨hK.os, hK.tape, hK.output, hK.size, fun i hi hn => hK.block i hi fun h => hn (.inr h)⟩ (fun i hi => ?_) hsl
    rcases hi with hi | hi
    · exact .inl (.inl hi)
    · exact (hS' i hi).imp .inr id
end
end Go.Proofs.Ytnmfpgeojggjbaa
