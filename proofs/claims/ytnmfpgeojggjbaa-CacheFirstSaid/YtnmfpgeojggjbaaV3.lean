/-
  Getting a sector out of a cache; pins.
-/
import Derived.Test.YtnmfpgeojggjbaaV2
namespace Go.Proofs.Ytnmfpgeojggjbaa
open Go.RowKit
attribute [local go_sem ↓] Go.wp_at_zero Go.wp_at_succ

theorem hasKey_perm {K K' : List (Nat × Nat)} (h : K.Perm K') (k : Int) : hasKey K k = hasKey K' k := by
  rw [Bool.eq_iff_iff, hasKey_iff, hasKey_iff]
  exact ⟨fun ⟨p, hp, e⟩ => ⟨p, h.mem_iff.1 hp, e⟩, fun ⟨p, hp, e⟩ => ⟨p, h.mem_iff.2 hp, e⟩⟩
theorem blkAt_perm {K K' : List (Nat × Nat)} (h : K.Perm K') (hn : (K.map (·.1)).Nodup) (k : Int) : blkAt K k = blkAt K' k := by
  have hn' : (K'.map (·.1)).Nodup := (h.map _).nodup_iff.1 hn
  cases hk : hasKey K k
  · rw [blkAt_none hk, blkAt_none (by rw [← hasKey_perm h, hk])]
  · obtain ⟨p, hp, rfl⟩ := hasKey_iff.1 hk
    rw [blkAt_mem hn hp, blkAt_mem hn' (h.mem_iff.1 hp)]
theorem erase_perm {α : Type} {l : List α} {i : Nat} {a : α} (h : l[i]? = some a) : (l.eraseIdx i ++ [a]).Perm l := by
  obtain ⟨hi, rfl⟩ := List.getElem?_eq_some_iff.1 h
  rw [List.eraseIdx_eq_take_drop_succ, List.append_assoc]
  have e : l = l.take i ++ (l[i] :: l.drop (i + 1)) := by rw [← List.drop_eq_getElem_cons hi, List.take_append_drop]
  refine List.Perm.trans ?_ (List.Perm.of_eq e.symm)
  exact List.Perm.append_left _ (List.perm_append_singleton _ _)

section
variable {N : Nat} {w w' : World} {S : Nat → Prop} {b bd room bm : Nat} {vo : Value} {O : List Int} {L L1 L' : List (Nat × Sl)} {E E' : List En} {k k1 k' : Dk Nat}

theorem CMem.perm (h : CMem w b bd room bm vo O E) (hp : E'.Perm E) : CMem w b bd room bm vo O E' :=
  ⟨h.blk, h.map.as (fun s => blkAt_perm (hp.symm.map _) (sg_nodup h.ss) s) (fun s => hasKey_perm (hp.symm.map _) s) hp.length_eq.symm, h.ord, fun e he => h.sl e (hp.mem_iff.1 he), (hp.map _).nodup_iff.2 h.gs, (hp.map _).nodup_iff.2 h.ss⟩
/-- A slot goes behind the others. -/
theorem Both.touch (h : Both w S b bd room O L k) {i : Nat} {p : Nat × Sl} (hL : L[i]? = some p) : ∃ S', (∀ j, S' j → S j) ∧ Both w S' b bd room O (L.eraseIdx i ++ [p]) k := by
  obtain ⟨Sc, Sd, rfl, ⟨bm, vo, E, rfl, hm, rfl⟩, hd⟩ := h
  obtain ⟨s, x⟩ := p
  obtain ⟨e, he, rfl, rfl⟩ := en_at hL
  have hp := erase_perm he
  refine ⟨fun j => cfoot b bm vo ((E.eraseIdx i ++ [e]).map (·.g)) j ∨ Sd j, fun j hj => ?_, _, _, rfl, ⟨bm, vo, _, rfl, hm.perm hp, by rw [List.map_append, Go.ChangeMaps.map_eraseIdx]; rfl⟩, hd⟩
  rcases hj with (h | h | h | h) | h
  · exact .inl (.inl h)
  · exact .inl (.inr (.inl h))
  · exact .inl (.inr (.inr (.inl h)))
  · exact .inl (.inr (.inr (.inr ((hp.map _).mem_iff.1 h))))
  · exact .inr h
theorem BTurned.touch (h : BTurned S w w' b bd room O L k) {i : Nat} {p : Nat × Sl} (hL : L[i]? = some p) : BTurned S w w' b bd room O (L.eraseIdx i ++ [p]) k := by
  obtain ⟨hK, S1, hB, hS⟩ := h
  obtain ⟨S2, h1, h2⟩ := hB.touch hL
  exact ⟨hK, S2, h2, fun j hj => hS j (h1 j hj)⟩

theorem keys_mem {s : Nat} : (s : Int) ∈ keysI L ↔ ∃ x, (s, x) ∈ L := by
  unfold keysI
  constructor
  · intro h
    obtain ⟨p, hp, e⟩ := List.mem_map.1 h
    obtain ⟨a, x⟩ := p
    have : a = s := by simp only at e; omega
    subst this
    exact ⟨x, hp⟩
  · rintro ⟨x, h⟩
    exact List.mem_map.2 ⟨_, h, rfl⟩
theorem keys_nodup (h : (L.map (·.1)).Nodup) : (keysI L).Nodup := by
  unfold keysI
  have : L.map (fun p => (p.1 : Int)) = (L.map (·.1)).map (fun n : Nat => (n : Int)) := by simp
  rw [this]
  exact List.Pairwise.map _ (fun a b hab e => hab (by omega)) h
theorem keys_touch (hn : (L.map (·.1)).Nodup) {i s : Nat} {x y : Sl} (hL : L[i]? = some (s, x)) : (keysI L).erase (s : Int) ++ [(s : Int)] = keysI (L.eraseIdx i ++ [(s, y)]) := by
  obtain ⟨h1, _, h3⟩ := keys_split hL
  have hnd := keys_nodup hn
  rw [h1, List.nodup_append] at hnd
  have hA : (s : Int) ∉ keysI (L.take i) := fun hm => hnd.2.2 _ hm _ (by simp) rfl
  rw [h1, List.erase_append_right _ hA, List.erase_cons_head, ← h3]
  simp [keysI]
theorem keys_more {s : Nat} {x : Sl} (hs : ∀ p ∈ L, p.1 ≠ s) : (keysI L).erase (s : Int) ++ [(s : Int)] = keysI (L ++ [(s, x)]) := by
  rw [List.erase_of_not_mem fun h => by
    obtain ⟨x, hx⟩ := keys_mem.1 h
    exact hs _ hx rfl]
  simp [keysI]

/-- The block of a slot, and its contents. -/
theorem Both.slot (h : Both w S b bd room O L k) {s : Nat} {x : Sl} (hx : (s, x) ∈ L) (hs : s ≤ 4096) : ∃ bm g, (Instr.lookup 60 (.map (some bm)) (.int .i64 (s : Int)) false).run Try.prog w = .ok (.pointer (some ⟨g, 0, none⟩)) w ∧ w.cell? ⟨b, 2, none⟩ = some (.map (some bm)) ∧ Bk w g 67 x.cells ∧ S g := by
  obtain ⟨Sc, Sd, rfl, ⟨bm, vo, E, rfl, hm, rfl⟩, hd⟩ := h
  obtain ⟨e, he, h2⟩ := List.mem_map.1 hx
  simp only [En.sx, Prod.mk.injEq] at h2
  obtain ⟨rfl, rfl⟩ := h2
  have hlk := hm.look (e.s : Int) (I64_nat hs)
  rw [hm.at_ he] at hlk
  exact ⟨bm, e.g, hlk, hm.c2, hm.sl e he, .inl (.inr (.inr (.inr (List.mem_map.2 ⟨e, he, rfl⟩))))⟩
theorem Both.noslot (h : Both w S b bd room O L k) {s : Int} (hx : ∀ p ∈ L, (p.1 : Int) ≠ s) (hs : I64 s) : ∃ bm, (Instr.lookup 60 (.map (some bm)) (.int .i64 s) false).run Try.prog w = .ok (.pointer none) w ∧ w.cell? ⟨b, 2, none⟩ = some (.map (some bm)) := by
  obtain ⟨Sc, Sd, rfl, ⟨bm, vo, E, rfl, hm, rfl⟩, hd⟩ := h
  have hlk := hm.look s hs
  rw [blkAt_none (by
    cases hk : hasKey (E.map En.sg) s
    · rfl
    · obtain ⟨p, hp, hps⟩ := hasKey_iff.1 hk
      obtain ⟨e, he, rfl⟩ := List.mem_map.1 hp
      exact absurd hps (hx e.sx (List.mem_map.2 ⟨e, he, rfl⟩)))] at hlk
  exact ⟨bm, hlk, hm.c2⟩

/-- The tail of Get: a copy of the slot's bytes. -/
theorem same_run (c : Nat) (w : World) (c0 : Array Value) (h : c0.size = 64) : (storeCells ⟨w.heap.size, 0, none⟩ (same c) 0).run Try.prog (w.alloc (.cells c0 65)) = .ok () (w.alloc (.cells (same c).toArray 65)) := by
  simpa using run_storeCells_new (P := Try.prog) w 65 c0 (same c).toArray (by rw [size61]; simp [same_length]) (by simp [same_length, h]) (all_oneCell_toArray (same_one c))

theorem slot_range {g : Nat} {x : Sl} (hB : Bk w g 67 x.cells) : w.rangeAt g 0 (same x.c) := fun j v hj => by
  have hj' : j < 64 := by have := (List.getElem?_eq_some_iff.1 hj).1; rwa [same_length] at this
  rw [Nat.zero_add, hB.cell j, Sl.get_low x hj', ← hj]
  unfold same
  rw [List.getElem?_replicate, if_pos hj']

set_option maxRecDepth 100000 in
set_option maxHeartbeats 1600000 in
/-- Get of a sector that is cached. -/
theorem get_hit (h : Both w S b bd room (keysI L) L k) (F : Fine N L k) {i s : Nat} {x : Sl} (hL : L[i]? = some (s, x)) :
    Calls Try.prog 12 #[.pointer (some ⟨b, 0, none⟩), .int .i64 (s : Int)] w fun e w' => ∃ g, e = .returned (.tuple #[.slice (some ⟨g, 0, none⟩) 64 64, .int .i64 0]) ∧ w.heap.size ≤ g ∧ Bk w' g 65 (same x.c) ∧ (∃ w1, BTurned S w w1 b bd room (keysI (L.eraseIdx i ++ [(s, x)])) (L.eraseIdx i ++ [(s, x)]) k ∧ Below w1.heap.size w1 w') := by
  have hx := List.mem_of_getElem? hL
  have hs : s < k.safe.length := F.key _ hx
  have hs' : s ≤ 4096 := Nat.le_trans (Nat.le_of_lt hs) F.n
  have hh : k.has (s : Int) = true := by simp [Dk.has]; omega
  obtain ⟨bm, g, hlk, c2, hB, hg⟩ := h.slot hx hs'
  have H := Lib.hid h
  have HF := Lib.hid F
  have HL := Lib.hid hL
  have Hh := Lib.hid hh
  have Hs := Lib.hid hs'
  have Hx := Lib.hid hx
  have Hn := Lib.hid h.nodup
  clear h F hL hh hx hs hs' hB hg
  go_enter Try.func12, Try.ntmps12
  go_wp2_with (first
    | (go_at_call 24; refine (creach_any H.out _).mono ?_; rintro e w' ⟨rfl, rfl⟩; rw [Hh.out, if_pos rfl])
    | (go_at_call 26; refine (use_any H.out _ (by have := HF.out.len; simp [keysI]; omega)).mono ?_; rintro e w1 ⟨rfl, hK, S1, hB1, hS1⟩; obtain ⟨bm1, g1, hlk1, c21, hBg, hg1⟩ := hB1.slot Hx.out Hs.out; have hr1 : w1.rangeAt g1 0 (same x.c) := slot_range hBg; have hst := same_run x.c w1; have HK := Lib.hid hK; have HB1 := Lib.hid hB1; have HS1 := Lib.hid hS1; clear hK hB1 hS1 hBg hg1 hlk c2)
    | (refine wpList_load_mid rfl 65 (.tmp 38) rfl g1 0 rfl (same x.c) _ hr1 Try.underlying65 rfl (by rw [size61, same_length]) ?_))
  go_ret2
  refine ⟨_, rfl, HK.out.size, Bk.new w1 65 (same x.c), w1, ?_, (Below.refl _ w1).alloc (Nat.le_refl _) _⟩
  have hb := HB1.out
  rw [keys_touch Hn.out HL.out (y := x)] at hb
  exact BTurned.touch ⟨HK.out, S1, hb, HS1.out⟩ HL.out

set_option maxRecDepth 100000 in
set_option maxHeartbeats 1600000 in
/-- Get of a sector that is not. -/
theorem get_miss (h : Both w S b bd room (keysI L) L k) (F : Fine N L k) (hN : N ≤ 1000000000) {s c : Nat} (hs : s < k.safe.length) (hno : ∀ p ∈ L, p.1 ≠ s) (hk : roomK room L k = some (L1, k1)) (hc : k1.now[s]? = some c) :
    Calls Try.prog 12 #[.pointer (some ⟨b, 0, none⟩), .int .i64 (s : Int)] w fun e w' => ∃ g, e = .returned (.tuple #[.slice (some ⟨g, 0, none⟩) 64 64, .int .i64 0]) ∧ w.heap.size ≤ g ∧ Bk w' g 65 (same c) ∧ (∃ w1, BTurned S w w1 b bd room (keysI (L1 ++ [(s, ⟨c, 0, false, 0⟩)])) (L1 ++ [(s, ⟨c, 0, false, 0⟩)]) k1 ∧ Below w1.heap.size w1 w') := by
  have hs' : s ≤ 4096 := Nat.le_trans (Nat.le_of_lt hs) F.n
  have hh : k.has (s : Int) = true := by simp [Dk.has]; omega
  have hno1 : ∀ p ∈ L1, p.1 ≠ s := fun p hp => hno p ((roomK_sub hk).subset hp)
  obtain ⟨bm, hlk, c2⟩ := h.noslot (s := (s : Int)) (fun p hp e => hno p hp (by omega)) (I64_nat hs')
  have hl1 : (keysI L1).length ≤ 100000 := by have := (roomK_fine F hk).len; simp [keysI]; omega
  have H := Lib.hid h
  have HF := Lib.hid F
  have HN := Lib.hid hN
  have Hh := Lib.hid hh
  have Hs := Lib.hid hs'
  have Hno := Lib.hid hno1
  have Hk := Lib.hid hk
  have Hc := Lib.hid hc
  have Hl1 := Lib.hid hl1
  clear h F hN hs hno hk hc hs' hh hno1 hl1
  go_enter Try.func12, Try.ntmps12
  go_wp2_with (first
    | (go_at_call 24; refine (creach_any H.out _).mono ?_; rintro e w' ⟨rfl, rfl⟩; rw [Hh.out, if_pos rfl])
    | (go_at_call 25; refine (load_ok H.out HF.out HN.out Hk.out Hc.out Hno.out).mono ?_; rintro e w0 ⟨rfl, hK0, S0, hB0, hS0⟩; have HK0 := Lib.hid hK0; have HB0 := Lib.hid hB0; have HS0 := Lib.hid hS0; clear hK0 hB0 hS0 hlk c2)
    | (go_at_call 26; refine (use_any HB0.out _ Hl1.out).mono ?_; rintro e w1 ⟨rfl, hK, S1, hB1, hS1⟩; obtain ⟨bm1, g1, hlk1, c21, hBg, hg1⟩ := hB1.slot (s := s) (x := ⟨c, 0, false, 0⟩) (by simp) Hs.out; have hr1 : w1.rangeAt g1 0 (same c) := slot_range hBg; have hst := same_run c w1; have HK := Lib.hid hK; have HB1 := Lib.hid hB1; have HS1 := Lib.hid hS1; clear hK hB1 hS1 hBg hg1)
    | (refine wpList_load_mid rfl 65 (.tmp 38) rfl g1 0 rfl (same c) _ hr1 Try.underlying65 rfl (by rw [size61, same_length]) ?_))
  go_ret2
  have hK2 := HK0.out.trans HK.out fun i hi => HS0.out i hi
  refine ⟨_, rfl, hK2.size, Bk.new w1 65 (same c), w1, ?_, (Below.refl _ w1).alloc (Nat.le_refl _) _⟩
  have hb := HB1.out
  rw [keys_more (x := ⟨c, 0, false, 0⟩) Hno.out] at hb
  exact BTurned.trans HK0.out HS0.out ⟨HK.out, S1, hb, HS1.out⟩

set_option maxRecDepth 100000 in
/-- Get when all are pinned. -/
theorem get_full (h : Both w S b bd room (keysI L) L k) (F : Fine N L k) {s : Nat} (hs : s < k.safe.length) (hno : ∀ p ∈ L, p.1 ≠ s) (hk : roomK room L k = none) :
    Calls Try.prog 12 #[.pointer (some ⟨b, 0, none⟩), .int .i64 (s : Int)] w fun e w' => e = .returned (.tuple #[.slice none 0 0, .int .i64 5]) ∧ BTurned S w w' b bd room (keysI L) L k := by
  have hs' : s ≤ 4096 := Nat.le_trans (Nat.le_of_lt hs) F.n
  have hh : k.has (s : Int) = true := by simp [Dk.has]; omega
  obtain ⟨bm, hlk, c2⟩ := h.noslot (s := (s : Int)) (fun p hp e => hno p hp (by omega)) (I64_nat hs')
  have H := Lib.hid h
  have HF := Lib.hid F
  have Hh := Lib.hid hh
  have Hk := Lib.hid hk
  clear h F hs hno hk hs' hh
  go_enter Try.func12, Try.ntmps12
  go_wp2_with (first
    | (go_at_call 24; refine (creach_any H.out _).mono ?_; rintro e w' ⟨rfl, rfl⟩; rw [Hh.out, if_pos rfl])
    | (go_at_call 25; refine (load_none H.out HF.out Hk.out _).mono ?_; rintro e w0 ⟨rfl, hT⟩; have T := Lib.hid hT; clear hT))
  go_ret2
  exact ⟨rfl, T.out⟩

/-- Get of a sector that there is not. -/
theorem get_bad (h : Both w S b bd room O L k) {s : Int} (hs : k.has s = false) :
    Calls Try.prog 12 #[.pointer (some ⟨b, 0, none⟩), .int .i64 s] w fun e w' => e = .returned (.tuple #[.slice none 0 0, .int .i64 1]) ∧ w = w' := by
  have H := Lib.hid h
  have Hh := Lib.hid hs
  clear h hs
  go_enter Try.func12, Try.ntmps12
  go_wp2_with (go_at_call 24; refine (creach_any H.out _).mono ?_; rintro e w' ⟨rfl, rfl⟩; rw [Hh.out, if_neg (by decide)])
  go_ret2
  exact ⟨rfl, rfl⟩
theorem get_nil (w : World) (s : Int) : Calls Try.prog 12 #[.pointer none, .int .i64 s] w fun e w' => e = .returned (.tuple #[.slice none 0 0, .int .i64 2]) ∧ w = w' := by
  go_enter Try.func12, Try.ntmps12
  go_wp2_with (go_at_call 24; refine (creach_nil _ _).mono ?_; rintro e w' ⟨rfl, rfl⟩)
  go_ret2
  exact ⟨rfl, rfl⟩

/-- Pins. -/
theorem BTurned.slot2 (h : Both w S b bd room O L k) {i s : Nat} {x y : Sl} (hL : L[i]? = some (s, x)) (hs : s ≤ 4096) : ∃ bm g, (Instr.lookup 60 (.map (some bm)) (.int .i64 (s : Int)) false).run Try.prog w = .ok (.pointer (some ⟨g, 0, none⟩)) w ∧ w.cell? ⟨b, 2, none⟩ = some (.map (some bm)) ∧ Bk w g 67 x.cells ∧
    ∀ w', w.grownBy w' (some g) → Bk w' g 67 y.cells → BTurned S w w' b bd room O (L.set i (s, y)) k := by
  obtain ⟨Sc, Sd, rfl, ⟨bm, vo, E, rfl, hm, rfl⟩, hd⟩ := h
  obtain ⟨e, he, rfl, rfl⟩ := en_at hL
  have hmem := List.mem_of_getElem? he
  have hlk := hm.look (e.s : Int) (I64_nat hs)
  rw [hm.at_ hmem] at hlk
  exact ⟨bm, e.g, hlk, hm.c2, hm.sl e hmem, fun w' hK hB => BTurned.slot hm hd he hK hB⟩

set_option maxRecDepth 100000 in
set_option maxHeartbeats 1600000 in
theorem pin_ok (h : Both w S b bd room O L k) {i s : Nat} {x : Sl} (hL : L[i]? = some (s, x)) (hs : s ≤ 4096) (hp : x.pins ≤ 1000000000) :
    Calls Try.prog 15 #[.pointer (some ⟨b, 0, none⟩), .int .i64 (s : Int)] w fun e w' => e = .returned (.int .i64 0) ∧ BTurned S w w' b bd room O (L.set i (s, { x with pins := x.pins + 1 })) k := by
  obtain ⟨bm, g, hlk, c2, hB, hfin⟩ := BTurned.slot2 (y := { x with pins := x.pins + 1 }) h hL hs
  have c66 := (hB.cell 66).trans (Sl.get66 x)
  have f66 := hB.frozen 66
  have hw : wrap64 ((x.pins : Int) + 1) = ((x.pins + 1 : Nat) : Int) := by unfold wrap64; omega
  have HB := Lib.hid hB
  have Hf := Lib.hid hfin
  clear hB hfin h hL hs hp
  go_enter Try.func15, Try.ntmps15
  go_wp2
  go_ret
  refine ⟨rfl, Hf.out _ (only_set (World.grownBy.refl w (some g)) 66 _) ?_⟩
  have := HB.out.set 66 (.int .i64 ((x.pins + 1 : Nat) : Int))
  rw [Sl.set66] at this
  exact this
theorem pin_none (h : Both w S b bd room O L k) {s : Int} (hs : I64 s) (hno : ∀ p ∈ L, (p.1 : Int) ≠ s) :
    Calls Try.prog 15 #[.pointer (some ⟨b, 0, none⟩), .int .i64 s] w fun e w' => e = .returned (.int .i64 2) ∧ w = w' := by
  obtain ⟨bm, hlk, c2⟩ := h.noslot hno hs
  clear h hs hno
  go_enter Try.func15, Try.ntmps15
  go_wp2
  go_ret
  exact ⟨rfl, rfl⟩
theorem pin_nil (w : World) (s : Int) : Calls Try.prog 15 #[.pointer none, .int .i64 s] w fun e w' => e = .returned (.int .i64 2) ∧ w = w' := by
  go_enter Try.func15, Try.ntmps15
  go_wp2
  go_ret
  exact ⟨rfl, rfl⟩

set_option maxRecDepth 100000 in
set_option maxHeartbeats 1600000 in
theorem unpin_ok (h : Both w S b bd room O L k) {i s : Nat} {x : Sl} (hL : L[i]? = some (s, x)) (hs : s ≤ 4096) (hp : x.pins ≤ 1000000000) (hp0 : x.pins ≠ 0) :
    Calls Try.prog 16 #[.pointer (some ⟨b, 0, none⟩), .int .i64 (s : Int)] w fun e w' => e = .returned (.int .i64 0) ∧ BTurned S w w' b bd room O (L.set i (s, { x with pins := x.pins - 1 })) k := by
  obtain ⟨bm, g, hlk, c2, hB, hfin⟩ := BTurned.slot2 (y := { x with pins := x.pins - 1 }) h hL hs
  have c66 := (hB.cell 66).trans (Sl.get66 x)
  have f66 := hB.frozen 66
  have hw : wrap64 ((x.pins : Int) - 1) = ((x.pins - 1 : Nat) : Int) := by unfold wrap64; omega
  have hz : ((x.pins : Int) == 0) = false := by simp; omega
  have HB := Lib.hid hB
  have Hf := Lib.hid hfin
  clear hB hfin h hL hs hp
  go_enter Try.func16, Try.ntmps16
  go_wp2
  go_ret
  refine ⟨rfl, Hf.out _ (only_set (World.grownBy.refl w (some g)) 66 _) ?_⟩
  have := HB.out.set 66 (.int .i64 ((x.pins - 1 : Nat) : Int))
  rw [Sl.set66] at this
  exact this
set_option maxRecDepth 100000 in
theorem unpin_zero (h : Both w S b bd room O L k) {i s : Nat} {x : Sl} (hL : L[i]? = some (s, x)) (hs : s ≤ 4096) (hp0 : x.pins = 0) :
    Calls Try.prog 16 #[.pointer (some ⟨b, 0, none⟩), .int .i64 (s : Int)] w fun e w' => e = .returned (.int .i64 2) ∧ w = w' := by
  obtain ⟨bm, g, hlk, c2, hB, hfin⟩ := BTurned.slot2 (y := x) h hL hs
  have c66 := (hB.cell 66).trans (Sl.get66 x)
  rw [hp0] at c66
  clear hB hfin h hL hs hp0
  go_enter Try.func16, Try.ntmps16
  go_wp2
  go_ret
  exact ⟨rfl, rfl⟩
theorem unpin_none (h : Both w S b bd room O L k) {s : Int} (hs : I64 s) (hno : ∀ p ∈ L, (p.1 : Int) ≠ s) :
    Calls Try.prog 16 #[.pointer (some ⟨b, 0, none⟩), .int .i64 s] w fun e w' => e = .returned (.int .i64 2) ∧ w = w' := by
  obtain ⟨bm, hlk, c2⟩ := h.noslot hno hs
  clear h hs hno
  go_enter Try.func16, Try.ntmps16
  go_wp2
  go_ret
  exact ⟨rfl, rfl⟩
theorem unpin_nil (w : World) (s : Int) : Calls Try.prog 16 #[.pointer none, .int .i64 s] w fun e w' => e = .returned (.int .i64 2) ∧ w = w' := by
  go_enter Try.func16, Try.ntmps16
  go_wp2
  go_ret
  exact ⟨rfl, rfl⟩
end
end Go.Proofs.Ytnmfpgeojggjbaa
