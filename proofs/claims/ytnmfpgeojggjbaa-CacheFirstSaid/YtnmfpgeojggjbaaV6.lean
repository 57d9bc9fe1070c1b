/-
  Flushing a cache.
-/
import Derived.Test.YtnmfpgeojggjbaaV5
namespace Go.Proofs.Ytnmfpgeojggjbaa
open Go.RowKit Go.Maps
attribute [local go_sem ↓] Go.wp_at_zero Go.wp_at_succ

/-- One sector of a flush, on paper. -/
def cleanAt (q : List (Nat × Sl) × Dk Nat) (s : Int) : List (Nat × Sl) × Dk Nat :=
  match q.1.findIdx? (fun p => decide ((p.1 : Int) = s)) with
  | none => q
  | some i => match q.1[i]? with
    | none => q
    | some p => if p.2.pins = 0 then (q.1.set i (p.1, cleanS p.2), cleanK q.2 p.1 p.2) else q

theorem find_key {L : List (Nat × Sl)} (hn : (L.map (·.1)).Nodup) {i s : Nat} {x : Sl} (h : L[i]? = some (s, x)) : L.findIdx? (fun p => decide ((p.1 : Int) = (s : Int))) = some i := by
  obtain ⟨hi, he⟩ := List.getElem?_eq_some_iff.1 h
  rw [List.findIdx?_eq_some_iff_getElem]
  refine ⟨hi, by simp [he], fun j hj => ?_⟩
  simp only [decide_eq_true_eq]
  intro e
  have e2 : (L[j]'(by omega)).1 = L[i].1 := by rw [he]; omega
  have := nodup_inj hn (i := j) (j := i) (by simp; omega) (by simpa using hi) (by simpa using e2)
  omega
theorem cleanAt_free {L : List (Nat × Sl)} {k : Dk Nat} (hn : (L.map (·.1)).Nodup) {i s : Nat} {x : Sl} (h : L[i]? = some (s, x)) (hp : x.pins = 0) : cleanAt (L, k) (s : Int) = (L.set i (s, cleanS x), cleanK k s x) := by
  unfold cleanAt
  rw [find_key hn h]
  simp [h, hp]
theorem cleanAt_pinned {L : List (Nat × Sl)} {k : Dk Nat} (hn : (L.map (·.1)).Nodup) {i s : Nat} {x : Sl} (h : L[i]? = some (s, x)) (hp : x.pins ≠ 0) : cleanAt (L, k) (s : Int) = (L, k) := by
  unfold cleanAt
  rw [find_key hn h]
  simp [h, hp]

/-- What stays as it is while a flush goes on. -/
structure Going (N : Nat) (K : List Int) (n : Nat) (L : List (Nat × Sl)) (k : Dk Nat) : Prop where
  fine : Fine N L k
  keys : keysI L = K
  pins : ∀ p ∈ L, p.2.pins ≤ 1000000000
  len : k.safe.length = n
theorem set_keys {L : List (Nat × Sl)} {i s : Nat} {x y : Sl} (h : L[i]? = some (s, x)) : keysI (L.set i (s, y)) = keysI L := by
  unfold keysI
  rw [List.map_set]
  exact set_self (by rw [List.getElem?_map, h]; rfl)
theorem Going.clean {N n : Nat} {K : List Int} {L : List (Nat × Sl)} {k : Dk Nat} (G : Going N K n L k) {i s : Nat} {x : Sl} (h : L[i]? = some (s, x)) : Going (N + 1) K n (L.set i (s, cleanS x)) (cleanK k s x) := by
  have hm := List.mem_of_getElem? h
  have F := cleanK_fine G.fine s x
  have hl := cleanK_len k s x
  refine ⟨⟨fun p hp => ?_, fun p hp hd => ?_, F.n, F.on, F.nocut, F.un, by rw [List.length_set]; exact F.len⟩, by rw [set_keys h]; exact G.keys, fun p hp => ?_, by rw [hl]; exact G.len⟩
  · rcases List.mem_or_eq_of_mem_set hp with h1 | rfl
    · exact F.key p h1
    · exact F.key (s, x) hm
  · rcases List.mem_or_eq_of_mem_set hp with h1 | rfl
    · exact F.tag p h1 hd
    · simp [cleanS] at hd
  · rcases List.mem_or_eq_of_mem_set hp with h1 | rfl
    · exact G.pins p h1
    · exact G.pins (s, x) hm

section
variable {N : Nat} {w w' : World} {S : Nat → Prop} {b bd room bm : Nat} {vo : Value} {O : List Int} {L L1 L' : List (Nat × Sl)} {E E' : List En} {k k1 k' : Dk Nat}

theorem Both.c0 (h : Both w S b bd room O L k) : w.cell? ⟨b, 0, none⟩ = some (.pointer (some ⟨bd, 0, none⟩)) := by
  obtain ⟨Sc, Sd, rfl, ⟨bm, vo, E, rfl, hm, rfl⟩, hd⟩ := h
  exact hm.c0
theorem Both.flushD (h : Both w S b bd room O L k) (hun : k.un.length ≤ 1073741824) (hon : k.off = false) :
    Calls Try.prog 29 #[.pointer (some ⟨bd, 0, none⟩)] w fun e w' => e = .returned (.int .i64 0) ∧ BTurned S w w' b bd room O L k.flush := by
  obtain ⟨Sc, Sd, rfl, hc, hd⟩ := h
  refine (flush_any sec_enc w Sd bd k hd hun).mono ?_
  rintro e w' ⟨rfl, hT⟩
  exact ⟨by rw [hon]; rfl, BTurned.disk hc hd hT⟩

set_option maxRecDepth 100000 in
set_option maxHeartbeats 3200000 in
theorem cflush_any (h : Both w S b bd room (keysI L) L k) (F : Fine N L k) (hN : N ≤ 1000000000) (hpin : ∀ p ∈ L, p.2.pins ≤ 1000000000) :
    Calls Try.prog 17 #[.pointer (some ⟨b, 0, none⟩)] w fun e w' => ∃ l : List Int, l.Perm (keysI (L.filter fun p => p.2.dirty)) ∧ e = .returned (.int .i64 0) ∧
      BTurned S w w' b bd room (keysI L) (l.foldl cleanAt (L, k)).1 (l.foldl cleanAt (L, k)).2.flush ∧ Going (N + l.length) (keysI L) k.safe.length (l.foldl cleanAt (L, k)).1 (l.foldl cleanAt (L, k)).2 := by
  have H := Lib.hid h
  have HF := Lib.hid F
  have HN := Lib.hid hN
  have Hpin := Lib.hid hpin
  obtain ⟨Sc, Sd, hS, hc, hd⟩ := h
  have HC := Lib.hid hc
  have Hlen : Hid (L.length ≤ 10000) := F.len
  clear hc hd F hN hpin hS
  go_enter Try.func17, Try.ntmps17
  go_wp2_with (go_at_call 20; refine (dirty_any HC.out Hlen.out).mono ?_; rintro e w1 ⟨v, l, rfl, hI, hp, hb⟩; obtain ⟨Av, cv, hv, hvl, hvm⟩ := hI.len; obtain ⟨n, hn⟩ : ∃ n, n = l.length := ⟨_, rfl⟩; rw [← hn] at hv; subst hv; have HI := Lib.hid hI; have Hp := Lib.hid hp; have Hb := Lib.hid hb; have Hn := Lib.hid hn; clear hI hp hb hn hvl hvm)
  have hn4 : n ≤ 10000 := by
    have h1 := Hp.out.length_eq
    have h2 := List.length_filter_le (fun p : Nat × Sl => p.2.dirty) L
    have h3 := Hlen.out
    simp only [keysI, List.length_map] at h1
    rw [Hn.out]
    omega
  go_loopw [4, 5, 11] (fun _ _ i wr => ∃ (j : Nat) (S' : Nat → Prop), j ≤ n ∧ i = .int .i64 (j : Int) ∧ Both wr S' b bd room (keysI L) ((l.take j).foldl cleanAt (L, k)).1 ((l.take j).foldl cleanAt (L, k)).2 ∧
    Ints wr w.heap.size (.slice Av n cv) l ∧ Kept S w wr ∧ (∀ t, S' t → S t ∨ w.heap.size ≤ t) ∧ (∀ t g, (Value.slice Av n cv).ownBlock = some g → S' t → t ≠ g) ∧ Going (N + j) (keysI L) k.safe.length ((l.take j).foldl cleanAt (L, k)).1 ((l.take j).foldl cleanAt (L, k)).2) (fun _ _ i _ => n - (intOf i).toNat)
  case atStart => exact ⟨0, S, Nat.zero_le _, rfl, H.out.below Hb.out, HI.out, Kept.of_below Hb.out, fun t ht => .inl ht, fun t g hg ht e => by have := H.out.lt ht; have := (HI.out.lt hg).2.1; omega, ⟨HF.out, rfl, Hpin.out, rfl⟩⟩
  case round =>
    obtain ⟨j, S', hj, rfl, hB, hI, hK, hS, hne, hG⟩ := hrel
    have Hq : Hid (Both wr S' b bd room (keysI L) ((l.take j).foldl cleanAt (L, k)).1 ((l.take j).foldl cleanAt (L, k)).2 ∧ Going (N + j) (keysI L) k.safe.length ((l.take j).foldl cleanAt (L, k)).1 ((l.take j).foldl cleanAt (L, k)).2) := ⟨hB, hG⟩
    have HI2 := Lib.hid hI
    have HK := Lib.hid hK
    have HS := Lib.hid hS
    have Hne := Lib.hid hne
    clear hB hI hK hS hne hG
    by_cases hlt : j < n
    · have hjl : j < l.length := by rw [← Hn.out]; exact hlt
      obtain ⟨z, hz⟩ : ∃ z, z = l[j] := ⟨_, rfl⟩
      have hfold : (l.take (j + 1)).foldl cleanAt (L, k) = cleanAt ((l.take j).foldl cleanAt (L, k)) z := by
        rw [List.take_succ_eq_append_getElem hjl, List.foldl_append, ← hz]; rfl
      have hzm : z ∈ keysI L := by
        have h1 : z ∈ l := by rw [hz]; exact List.getElem_mem hjl
        have h2 := Hp.out.mem_iff.1 h1
        unfold keysI at h2 ⊢
        exact ((List.filter_sublist).map _).subset h2
      obtain ⟨g, c', hv, hcell, _⟩ := HI2.out.get hjl
      obtain rfl : Av = some ⟨g, 0, none⟩ := by injection hv
      clear hv
      rw [← hz] at hcell
      have Hfold := Lib.hid hfold
      clear hz hfold hjl
      obtain ⟨hB, hG⟩ := Hq.out
      generalize hq : (l.take j).foldl cleanAt (L, k) = q at hB hG Hfold
      obtain ⟨Lj, kj⟩ := q
      simp only at hB hG
      rw [← hG.keys] at hzm
      obtain ⟨p, hp, rfl⟩ := List.mem_map.1 hzm
      obtain ⟨i, hi, hpi⟩ := List.getElem_of_mem hp
      have hLi : Lj[i]? = some p := by rw [List.getElem?_eq_getElem hi, hpi]
      obtain ⟨s, x⟩ := p
      have hs' : s < kj.safe.length := hG.fine.key _ hp
      have hs4 : s ≤ 4096 := Nat.le_trans (Nat.le_of_lt hs') hG.fine.n
      obtain ⟨bm, gs, hlk, c2, hBs, _⟩ := hB.slot hp hs4
      have c66 := (hBs.cell 66).trans (Sl.get66 x)
      simp only at hcell
      have HB := Lib.hid hB
      have HG := Lib.hid hG
      have HLi := Lib.hid hLi
      have Hs := Lib.hid hs'
      have Hnd := Lib.hid hB.nodup
      clear hB hG hzm hp hi hpi hLi hs' hs4 hBs hq Hq
      by_cases hpin : x.pins = 0
      · have hx0 : ¬ ((0 : Int) < (x.pins : Int)) := by omega
        have Hpz := Lib.hid hpin
        clear hpin
        obtain ⟨n66, h66⟩ : ∃ n66 : Nat, n66 = x.pins := ⟨_, rfl⟩
        rw [← h66] at c66 hx0
        clear h66
        go_wp2_with (go_at_call 28; refine (clean_any HB.out HLi.out Hs.out HG.out.fine.n (HG.out.fine.tag _ (List.mem_of_getElem? HLi.out)) HG.out.fine.noff (Nat.le_trans HG.out.fine.un (by have := HN.out; omega))).mono ?_; rintro e w2 ⟨rfl, hT⟩; have T := Lib.hid hT; clear hT)
        obtain ⟨hK2, S2, hB2, hS2⟩ := T.out
        have hg1 := (HI2.out.lt (g := g) rfl).1
        have hkey : Both w2 S2 b bd room (keysI L) ((l.take (j + 1)).foldl cleanAt (L, k)).1 ((l.take (j + 1)).foldl cleanAt (L, k)).2 := by
          rw [Hfold.out, cleanAt_free Hnd.out HLi.out Hpz.out]; exact hB2
        have hgo : Going (N + (j + 1)) (keysI L) k.safe.length ((l.take (j + 1)).foldl cleanAt (L, k)).1 ((l.take (j + 1)).foldl cleanAt (L, k)).2 := by
          rw [Hfold.out, cleanAt_free Hnd.out HLi.out Hpz.out]; exact HG.out.clean HLi.out
        have hI3 : Ints w2 w.heap.size (.slice (some ⟨g, 0, none⟩) n cv) l := HI2.out.keep fun t ht => hK2.block t (HI2.out.lt ht).1 fun h => Hne.out t t ht h rfl
        have hK3 := HK.out.trans hK2 fun t ht => HS.out t ht
        have hS3 : ∀ t, S2 t → S t ∨ w.heap.size ≤ t := fun t ht => (hS2 t ht).elim (HS.out t) fun h => .inr (Nat.le_trans HK.out.size h)
        have hne3 : ∀ t g', (Value.slice (some ⟨g, 0, none⟩) n cv).ownBlock = some g' → S2 t → t ≠ g' := fun t g' hg' ht e => by
          rcases hS2 t ht with h | h
          · exact Hne.out t g' hg' h e
          · have := (HI2.out.lt hg').1; omega
        have A1 := Lib.hid hkey
        have A2 := Lib.hid hgo
        have A3 := Lib.hid hI3
        have A4 := Lib.hid hK3
        have A5 := Lib.hid hS3
        have A6 := Lib.hid hne3
        clear hK2 hB2 hS2 hkey hgo hI3 hK3 hS3 hne3 hg1
        go_wp2
        go_roundw
        case rel => exact ⟨j + 1, S2, by omega, by go_num, A1.out, A3.out, A4.out, A5.out, A6.out, A2.out⟩
        case measure => simp [intOf]; omega
      · have hx0 : (0 : Int) < (x.pins : Int) := by omega
        have Hpz := Lib.hid hpin
        clear hpin
        obtain ⟨n66, h66⟩ : ∃ n66 : Nat, n66 = x.pins := ⟨_, rfl⟩
        rw [← h66] at c66 hx0
        clear h66
        go_wp2
        go_roundw
        case rel =>
          refine ⟨j + 1, S', by omega, by go_num, ?_, HI2.out, HK.out, HS.out, Hne.out, ?_⟩
          · rw [Hfold.out, cleanAt_pinned Hnd.out HLi.out Hpz.out]; exact HB.out
          · rw [Hfold.out, cleanAt_pinned Hnd.out HLi.out Hpz.out]; exact ⟨HG.out.fine.up (by omega), HG.out.keys, HG.out.pins, HG.out.len⟩
        case measure => simp [intOf]; omega
    · obtain rfl : j = n := by omega
      have htk : l.take j = l := by rw [Hn.out]; exact List.take_length
      rw [htk] at Hq
      have c0 := Hq.out.1.c0
      have hun : Hid ((l.foldl cleanAt (L, k)).2.un.length ≤ 1073741824) := by have h1 := Hq.out.2.fine.un; have := HN.out; unfold Hid; omega
      have hoff := Lib.hid Hq.out.2.fine.noff
      have HB := Lib.hid Hq.out.1
      have HG : Hid (Going (N + l.length) (keysI L) k.safe.length (l.foldl cleanAt (L, k)).1 (l.foldl cleanAt (L, k)).2) := by have := Hq.out.2; rw [Hn.out] at this; exact this
      clear Hq htk
      go_wp2_with (go_at_call 29; refine (HB.out.flushD hun.out hoff.out).mono ?_; rintro e w2 ⟨rfl, hT⟩; have T := Lib.hid hT; clear hT)
      go_ret
      exact ⟨l, Hp.out, rfl, BTurned.trans HK.out HS.out T.out, HG.out⟩
end
end Go.Proofs.Ytnmfpgeojggjbaa
