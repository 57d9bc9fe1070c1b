/-
  Statement CachePinned: what is pinned and dirty is not on the disk: there it is as it was when it was pinned, till it is unpinned. No condition.
-/
import Derived.Test.YtnmfpgeojggjbaaO
import Derived.Test.YtnmfpgeojggjbaaQ
namespace Go.Proofs.Ytnmfpgeojggjbaa
open Go.RowKit Go.ChangeShapes Go.WideShapes Go.ChangeAt
attribute [local go_sem ↓] Go.wp_at_zero Go.wp_at_succ

/-- Sector s is pinned, once, and dirty; the disk has the byte 0 there; no other one is pinned. -/
def Stuck (s : Nat) (L : List (Nat × Sl)) (k : Dk Nat) : Prop := (∃ x, (s, x) ∈ L ∧ x.pins = 1 ∧ x.dirty = true) ∧ k.now[s]? = some 0 ∧ ∀ p ∈ L, p.1 ≠ s → p.2.pins = 0

section
variable {n P room N s : Nat} {V : Nat → Nat} {L L' L1 : List (Nat × Sl)} {k k' k1 : Dk Nat}

theorem Stuck.other (h : Stuck s L k) (hc : Coh n P room V N L k) {t i : Nat} {x : Sl} (hL : L[i]? = some (t, x)) (hp : x.pins = 0) : t ≠ s := by
  obtain ⟨⟨y, hy, hy1, _⟩, _⟩ := h
  rintro rfl
  have := hc.uniq hy (List.mem_of_getElem? hL)
  subst this
  omega
theorem Stuck.cleanK (h : Stuck s L k) (hc : Coh n P room V N L k) {t : Nat} (ht : t ≠ s) (x : Sl) : (cleanK k t x).now[s]? = some 0 := by
  rw [cleanK_now hc.fine.on hc.fine.nocut]
  split
  · rw [List.getElem?_set_ne ht]; exact h.2.1
  · exact h.2.1
theorem Stuck.roomed (h : Stuck s L k) (hc : Coh n P room V N L k) (hk : roomK room L k = some (L1, k1)) : Stuck s L1 k1 := by
  have hs := roomK_sub hk
  rcases roomK_cases hk with ⟨_, rfl, rfl⟩ | ⟨_, i, t, x, _, hL, hp, rfl, rfl⟩
  · exact h
  · have hne := h.other hc hL hp
    have hcl := h.cleanK hc hne x
    obtain ⟨⟨y, hy, h1, h2⟩, _, h4⟩ := h
    exact ⟨⟨y, (mem_erase_key hc.nod hL).2 ⟨hy, fun e => hne e.symm⟩, h1, h2⟩, hcl, fun p hp' hq => h4 p (hs.subset hp') hq⟩
theorem Stuck.more (h : Stuck s L k) {t : Nat} {x : Sl} (hp : x.pins = 0) : Stuck s (L ++ [(t, x)]) k := by
  obtain ⟨⟨y, hy, h1, h2⟩, h3, h4⟩ := h
  refine ⟨⟨y, List.mem_append.2 (.inl hy), h1, h2⟩, h3, fun p hm hq => ?_⟩
  rcases List.mem_append.1 hm with hm | hm
  · exact h4 p hm hq
  · obtain rfl : p = (t, x) := by simpa using hm
    exact hp
theorem stuck_get (h : Stuck s L k) (hc : Coh n P room V N L k) {a err : Int} (hg : GetR room L k a L' k' err) : Stuck s L' k' := by
  rcases hg with ⟨i, t, x, rfl, hL, rfl, rfl, rfl⟩ | ⟨t, c, L1, rfl, hno, ht, hk, hcc, rfl, rfl⟩ | ⟨t, rfl, hno, ht, hk, rfl, rfl, rfl⟩ | ⟨hh, rfl, rfl, rfl⟩
  · obtain ⟨⟨y, hy, h1, h2⟩, h3, h4⟩ := h
    exact ⟨⟨y, (erase_perm hL).mem_iff.2 hy, h1, h2⟩, h3, fun p hp hq => h4 p ((erase_perm hL).mem_iff.1 hp) hq⟩
  · exact (h.roomed hc hk).more rfl
  · exact h
  · exact h
theorem stuck_put (h : Stuck s L k) (hc : Coh n P room V N L k) {a err : Int} {c : Nat} (hg : PutR room L k a c L' k' err) : Stuck s L' k' := by
  rcases hg with ⟨i, t, x, rfl, hL, rfl, rfl, rfl⟩ | ⟨t, L1, rfl, hno, ht, hk, rfl, rfl⟩ | ⟨t, rfl, hno, ht, hk, rfl, rfl, rfl⟩ | ⟨hh, rfl, rfl, rfl⟩
  · obtain ⟨⟨y, hy, h1, h2⟩, h3, h4⟩ := h
    have hm := List.mem_of_getElem? hL
    refine ⟨?_, h3, fun p hp hq => ?_⟩
    · by_cases hts : t = s
      · subst hts
        obtain rfl := hc.uniq hy hm
        exact ⟨_, List.mem_append.2 (.inr (List.mem_singleton.2 rfl)), h1, rfl⟩
      · exact ⟨y, List.mem_append.2 (.inl ((mem_erase_key hc.nod hL).2 ⟨hy, fun e => hts e.symm⟩)), h1, h2⟩
    · rcases List.mem_append.1 hp with hp | hp
      · exact h4 p ((List.eraseIdx_sublist L i).subset hp) hq
      · obtain rfl : p = (t, _) := List.mem_singleton.1 hp
        exact h4 (t, x) hm hq
  · exact (h.roomed hc hk).more rfl
  · exact h
  · exact h
theorem Stuck.cleanAt (h : Stuck s L k) (hc : Coh n P room V N L k) {a : Int} (ha : a ∈ keysI L) : Stuck s (cleanAt (L, k) a).1 (cleanAt (L, k) a).2 := by
  obtain ⟨p, hp, rfl⟩ := List.mem_map.1 ha
  obtain ⟨i, hi, he⟩ := List.getElem_of_mem hp
  obtain ⟨t, x⟩ := p
  have hL : L[i]? = some (t, x) := by rw [List.getElem?_eq_getElem hi, he]
  by_cases hz : x.pins = 0
  · rw [cleanAt_free hc.nod hL hz]
    have hne := h.other hc hL hz
    have hcl := h.cleanK hc hne x
    obtain ⟨⟨y, hy, h1, h2⟩, _, h4⟩ := h
    refine ⟨⟨y, ?_, h1, h2⟩, hcl, fun p hp' hq => ?_⟩
    · obtain ⟨j, hj, hjy⟩ := List.getElem_of_mem hy
      refine List.mem_iff_getElem?.2 ⟨j, ?_⟩
      rw [List.getElem?_set_ne (fun e => hne (by subst e; rw [he] at hjy; injection hjy)), List.getElem?_eq_getElem hj, hjy]
    · rcases List.mem_or_eq_of_mem_set hp' with hp' | rfl
      · exact h4 p hp' hq
      · exact hz
  · rw [cleanAt_pinned hc.nod hL hz]
    exact h
theorem stuck_fold : ∀ (l : List Int) {N : Nat} {L : List (Nat × Sl)} {k : Dk Nat}, Stuck s L k → Coh n P room V N L k → (∀ a ∈ l, a ∈ keysI L) → Stuck s (l.foldl Ytnmfpgeojggjbaa.cleanAt (L, k)).1 (l.foldl Ytnmfpgeojggjbaa.cleanAt (L, k)).2
  | [], _, _, _, h, _, _ => h
  | a :: l, _, L, k, h, hc, hl => by
    obtain ⟨h1, h2, _⟩ := hc.cleanAt (hl a (by simp))
    have h3 : ∀ t ∈ l, t ∈ keysI (Ytnmfpgeojggjbaa.cleanAt (L, k) a).1 := fun t ht => h2 ▸ hl t (by simp [ht])
    have h4 := h.cleanAt hc (hl a (by simp))
    have h5 := stuck_fold l h4 h1 h3
    exact h5
theorem stuck_flush (h : Stuck s L k) (hc : Coh n P room V N L k) {l : List Int} (hf : FlushR L k l L' k') : Stuck s L' k' := by
  obtain ⟨hp, rfl, rfl⟩ := hf
  have hsub : ∀ a ∈ l, a ∈ keysI L := fun a ha => by
    have := hp.mem_iff.1 ha
    unfold keysI at this ⊢
    exact ((List.filter_sublist).map _).subset this
  obtain ⟨h1, _, _⟩ := coh_fold l hc hsub
  obtain ⟨a1, a2, a3⟩ := stuck_fold l h hc hsub
  have e := flush_now h1.fine.on h1.fine.nocut
  have hnow : ((l.foldl Ytnmfpgeojggjbaa.cleanAt (L, k)).2.flush).now = (l.foldl Ytnmfpgeojggjbaa.cleanAt (L, k)).2.now := by rw [e]; rfl
  exact ⟨a1, by rw [hnow]; exact a2, a3⟩
theorem stuck_hit (h : Stuck s L k) (hc : Coh n P room V N L k) {err : Int} (hg : GetR room L k (s : Int) L' k' err) : err = 0 := by
  obtain ⟨⟨y, hy, h1, h2⟩, h3, h4⟩ := h
  rcases hg with ⟨i, t, x, e, hL, rfl, rfl, rfl⟩ | ⟨t, c, L1, e, hno, ht, hk, hcc, rfl, rfl⟩ | ⟨t, e, hno, ht, hk, rfl, rfl, rfl⟩ | ⟨hh, rfl, rfl, rfl⟩
  · rfl
  · rfl
  · exact absurd (by simp only; omega) (hno _ hy)
  · have := hc.fine.key _ hy
    simp only [Dk.has, Bool.and_eq_false_iff, decide_eq_false_iff_not] at hh
    simp only at this
    omega
theorem stuck_unpin (h : Stuck s L k) (hc : Coh n P room V N L k) {err : Int} (hg : UnpinR L (s : Int) L' err) : err = 0 ∧ ∀ p ∈ L', p.2.pins = 0 := by
  obtain ⟨⟨y, hy, h1, h2⟩, h3, h4⟩ := h
  rcases hg with ⟨i, t, x, e, hL, hz, rfl, rfl⟩ | ⟨hno, _, _⟩
  · obtain rfl : t = s := by omega
    obtain rfl := hc.uniq hy (List.mem_of_getElem? hL)
    refine ⟨rfl, fun p hp => ?_⟩
    obtain ⟨j, hj, rfl⟩ := List.getElem_of_mem hp
    rw [List.getElem_set]
    split
    · simp only; omega
    · rename_i hne
      have hj' : j < L.length := by simpa using hj
      refine h4 _ (List.getElem_mem hj') fun e => hne ?_
      obtain ⟨hi, he⟩ := List.getElem?_eq_some_iff.1 hL
      exact nodup_inj hc.nod (by simpa using hi) (by simpa using hj') (by simp [he, e])
  · rcases hno with hno | ⟨i, t, x, e, hL, hz⟩
    · exact absurd rfl (hno _ hy)
    · obtain rfl : t = s := by omega
      obtain rfl := hc.uniq hy (List.mem_of_getElem? hL)
      omega
/-- The first put, and the pin. -/
theorem start_put {err : Int} (hr : 1 ≤ room) (hg : PutR room [] (Dk.fresh 8 0) 2 50 L' k' err) : err = 0 ∧ L' = [(2, ⟨50, 50, true, 0⟩)] ∧ k' = Dk.fresh 8 0 := by
  have hk0 : roomK room [] (Dk.fresh 8 0) = some ([], Dk.fresh 8 0) := by unfold roomK; rw [if_pos (by simp only [List.length_nil]; omega)]
  rcases hg with ⟨i, t, x, e, hL, rfl, rfl, rfl⟩ | ⟨t, L1, e, hno, ht, hk, rfl, rfl⟩ | ⟨t, e, hno, ht, hk, rfl, rfl, rfl⟩ | ⟨hh, rfl, rfl, rfl⟩
  · simp at hL
  · rw [hk0] at hk
    cases hk
    obtain rfl : t = 2 := by omega
    exact ⟨rfl, rfl, rfl⟩
  · rw [hk0] at hk
    cases hk
  · exact absurd hh (by decide)
theorem start_pin {err : Int} (hg : PinR [(2, ⟨50, 50, true, 0⟩)] 2 L' err) : err = 0 ∧ L' = [(2, ⟨50, 50, true, 1⟩)] := by
  rcases hg with ⟨i, t, x, e, hL, rfl, rfl⟩ | ⟨hno, _, _⟩
  · match i, hL with
    | 0, hL =>
      cases hL
      exact ⟨rfl, rfl⟩
  · exact absurd rfl (hno _ (List.mem_singleton.2 rfl))
end
theorem coh_start (n room : Nat) (hn : n ≤ 4096) : Coh n 0 room (fun _ => 0) 0 [] (Dk.fresh n 0) :=
  ⟨⟨by simp, by simp, by simp [Dk.fresh, hn], rfl, rfl, Nat.le_refl _, by simp⟩, by simp [Dk.fresh], by simp, by simp, fun s hs _ => by simp [Dk.now, Dk.fresh, puts, hs], by simp, by simp⟩

set_option maxRecDepth 100000 in
set_option maxHeartbeats 6400000 in
theorem pinned_walk (r : Nat) (hr : r < 256) (l : List Act) (A : Option Addr) (n c : Nat) (w : World) (hn : l.length = n) (hc : n ≤ c) (hm : c ≤ 9223372036854775807) (ha : Acts w w.heap.size A l) :
    Calls Try.prog 4 #[.int .u8 (r : Int), .slice A n c] w fun e w' => e = .returned (.bool true) ∧ Below w.heap.size w w' := by
  obtain ⟨m, hm9⟩ : ∃ m, m = r % 8 := ⟨_, rfl⟩
  have h9 : (r : Int) % 8 = (m : Int) := by omega
  obtain ⟨rm, hrm⟩ : ∃ rm, rm = m + 2 := ⟨_, rfl⟩
  have hrmi : (m : Int) + 2 = (rm : Int) := by omega
  have hml : m < 8 := by omega
  have hrl : 1 ≤ rm ∧ rm ≤ 9 := by omega
  have HA := Lib.hid ha
  have Hn := Lib.hid hn
  have Hrl := Lib.hid hrl
  clear ha hn hrl hrm hm9
  go_enter Try.func4, Try.ntmps4
  go_wp2_with fail
  refine (shown_any _).mono ?_
  rintro e w1 ⟨rfl, hb⟩
  have L1 := Lib.hid hb
  clear hb
  go_wp2_with fail
  refine (new_any (f := sec) _ 8 (by decide) 0 sec_zero).mono ?_
  rintro e w2 ⟨bd, Sd, rfl, hb, hD, hS⟩
  have D2 := Lib.hid hD
  have HS2 := Lib.hid fun i (hi : Sd i) => Nat.le_trans L1.out.size (hS i hi)
  have L2 := Lib.hid (L1.out.trans (hb.mono L1.out.size))
  clear hb hD hS L1
  go_wp2_with fail
  refine (cnew_any _ bd rm Hrl.out.1 (Nat.le_trans Hrl.out.2 (by decide))).mono ?_
  rintro e w3 ⟨b, Sc, rfl, hb, hC, hS⟩
  have O3 : Hid (Ours w.heap.size w3 b bd rm [] (Dk.fresh 8 0) (fun i => Sc i ∨ Sd i)) := Ours.start D2.out HS2.out hb L2.out.size hC hS
  have L3 := Lib.hid (L2.out.trans (hb.mono L2.out.size))
  clear hb hC hS D2 HS2 L2
  go_wp2_with fail
  refine (patch_int 2 50 50 rfl (by decide) _).mono ?_
  rintro e wp ⟨gp, rfl, hg, hB, hb⟩
  have OP := Lib.hid (O3.out.below hb)
  have NP := Lib.hid (O3.out.new hg)
  have BP := Lib.hid hB
  have LP := Lib.hid (L3.out.trans (hb.mono L3.out.size))
  clear hg hB hb O3 L3
  go_wp2_with fail
  have hC0 := coh_start 8 rm (by decide)
  refine (cput_all OP.out LP.out.size hC0.fine (by decide) 2 (c := 50) BP.out NP.out).mono ?_
  rintro e wq ⟨err, Lq, kq, Sq, rfl, hR, hO, hst⟩
  obtain ⟨rfl, rfl, rfl⟩ := start_put Hrl.out.1 hR
  have hCq : Coh 8 0 rm (fun s => if s = 2 then 50 else 0) 1 [(2, ⟨50, 50, true, 0⟩)] (Dk.fresh 8 0) := by
    rcases coh_put hC0 Hrl.out.1 (Nat.le_trans Hrl.out.2 (by decide)) hR with ⟨_, t, ht, _, h1⟩ | ⟨h1, _⟩
    · obtain rfl : t = 2 := by omega
      exact h1
    · exact absurd h1 (by decide)
  have OQ := Lib.hid hO
  have CQ := Lib.hid hCq
  have LQ := Lib.hid (LP.out.trans (hst.below OP.out.2 LP.out.size))
  clear hR hO hst hC0 hCq OP NP BP LP
  go_wp2_with fail
  refine (pin_all OQ.out LQ.out.size CQ.out.fine (fun p hp => Nat.le_trans (CQ.out.pins p hp) (by decide)) 2 (by unfold I64; decide)).mono ?_
  rintro e w4 ⟨err, L4', S4, rfl, hR, hO, hst⟩
  have hC4 := coh_pin CQ.out hR
  obtain ⟨rfl, rfl⟩ := start_pin hR
  have O4 := Lib.hid hO
  have C4 := Lib.hid hC4
  have T4 : Hid (Stuck 2 [(2, ⟨50, 50, true, 1⟩)] (Dk.fresh 8 0)) := ⟨⟨_, List.mem_singleton.2 rfl, rfl, rfl⟩, by rfl, fun p hp hq => by
    obtain rfl := List.mem_singleton.1 hp
    exact absurd rfl hq⟩
  have L4 := Lib.hid (LQ.out.trans (hst.below OQ.out.2 LQ.out.size))
  clear hR hO hst hC4 OQ CQ LQ
  have HA4 : Hid (Acts w4 w4.heap.size A l) := by
    have h1 := HA.out.below L4.out
    rcases h1 with h1 | ⟨b', o, h1, h2, h3⟩
    · exact .inl h1
    · exact .inr ⟨b', o, h1, Nat.lt_of_lt_of_le h2 L4.out.size, h3⟩
  go_wp2_with fail
  refine (few_any l A n c w4 Hn.out hc hm HA4.out).mono ?_
  rintro e w4' ⟨q, rfl, hq, hq2, rfl⟩
  go_wp2
  go_loopw [52] (fun i wr => ∃ (j : Nat) (V : Nat → Nat) (L : List (Nat × Sl)) (k : Dk Nat) (S : Nat → Prop), j ≤ q ∧ i = .int .i64 (j : Int) ∧ Ours w.heap.size wr b bd rm L k S ∧ Coh 8 1 rm V (j + 1) L k ∧ Stuck 2 L k ∧ (∀ s, V s < 256) ∧ Below w.heap.size w wr) (fun i _ => q - (intOf i).toNat)
  case atStart => exact ⟨0, fun s => if s = 2 then 50 else 0, _, _, _, Nat.zero_le _, rfl, O4.out, C4.out, T4.out, fun s => by simp only; split <;> decide, L4.out⟩
  case round =>
    clear O4 C4 T4 L4 HA4
    obtain ⟨j, V, L, k, S, hj, rfl, hO, hC, hT, hV, hL⟩ := hrel
    have O := Lib.hid hO
    have C := Lib.hid hC
    have ST := Lib.hid hT
    have HV := Lib.hid hV
    have LL := Lib.hid hL
    clear hO hC hT hV hL
    by_cases hlt : j < q
    · obtain ⟨ba, oa, a, rfl, hba, hal, hag, c0, c1, c2, c3⟩ := (HA.out.below LL.out).at (i := j) (by rw [Hn.out]; omega)
      have hk8 := hag.kind
      have hai := hag.at_
      have hac := hag.c
      obtain ⟨kd, hkd⟩ : ∃ kd, kd = a.kind := ⟨_, rfl⟩
      obtain ⟨ac, hacc⟩ : ∃ ac, ac = a.c := ⟨_, rfl⟩
      obtain ⟨at_, hat⟩ : ∃ at_, at_ = a.at_ := ⟨_, rfl⟩
      rw [← hkd] at c0 hk8
      rw [← hacc] at c2 hac
      rw [← hat] at c1 hai
      have HI := Lib.hid hai
      obtain ⟨bA, hbA⟩ : ∃ bA, bA = a.bA := ⟨_, rfl⟩
      obtain ⟨bn, hbn⟩ : ∃ bn, bn = a.bn := ⟨_, rfl⟩
      obtain ⟨bc, hbc⟩ : ∃ bc, bc = a.bc := ⟨_, rfl⟩
      rw [← hbA, ← hbn, ← hbc] at c3
      clear hkd hacc hat hbA hbn hbc hal hag hba hai
      have hBa := Bk.new wr 35 [.int .u8 (kd : Int), .int .i64 at_, .int .u8 (ac : Int), .slice bA bn bc]
      have hb0 : Below wr.heap.size wr (wr.alloc (.cells #[.int .u8 (kd : Int), .int .i64 at_, .int .u8 (ac : Int), .slice bA bn bc] 35)) := (Below.refl _ wr).alloc (Nat.le_refl _) _
      have O0 := Lib.hid (O.out.below hb0)
      have NA0 : Hid (¬ S wr.heap.size) := O.out.new (Nat.le_refl _)
      have BA0 := Lib.hid hBa
      have L0 := Lib.hid (LL.out.trans (hb0.mono LL.out.size))
      have GA : Hid (w.heap.size ≤ wr.heap.size) := LL.out.size
      have HJ : Hid (j + 1 ≤ 200) := by unfold Hid; omega
      clear hBa hb0
      have hkk : (kd : Int) % 8 = 0 ∨ (kd : Int) % 8 = 1 ∨ (kd : Int) % 8 = 2 ∨ (kd : Int) % 8 = 3 ∨ (kd : Int) % 8 = 4 ∨ (kd : Int) % 8 = 5 ∨ (kd : Int) % 8 = 6 ∨ (kd : Int) % 8 = 7 := by omega
      rcases hkk with hk | hk | hk | hk | hk | hk | hk | hk
      · go_wp2_with fail
        refine (get_all O0.out L0.out.size C.out.fine (by have := HJ.out; omega) at_).mono ?_
        rintro e wT ⟨v, err, L', k', S', rfl, hR, hO, hst, hv⟩
        have CT : Hid (Coh 8 1 rm V (j + 1 + 1) L' k') := (coh_get C.out Hrl.out.1 (Nat.le_trans Hrl.out.2 (by decide)) hR).1
        have STT := Lib.hid (stuck_get ST.out C.out hR)
        have OT := Lib.hid hO
        have LT := Lib.hid (L0.out.trans (hst.below O0.out.2 L0.out.size))
        have VT := HV
        clear hv O C ST HV LL L0 O0 hR hO hst
        obtain ⟨Sd, hd⟩ := OT.out.disk
        have DT := Lib.hid hd
        clear hd
        go_wp2_with fail
        refine (read_any _ _ _ k' DT.out 2 0 (same 0) (.int .u16 0) STT.out.2.1 rfl (same_length _) (same_one _) CT.out.fine.on).mono ?_
        rintro e w9 ⟨rfl, hB9, hb9⟩
        obtain ⟨g9, hg9⟩ : ∃ g9, g9 = wT.heap.size := ⟨_, rfl⟩
        rw [← hg9] at hB9 ⊢
        have B9 := Lib.hid hB9
        have O9 := Lib.hid (OT.out.below hb9)
        have L9 := Lib.hid (LT.out.trans (hb9.mono LT.out.size))
        clear hB9 hb9 hg9 DT OT LT
        go_wp2
        refine wp_region_held_drew (S := fun u : World => Below w9.heap.size w9 u) (by kernel_rfl) (Below.refl _ _).drew (fun hHeld => ?_)
        refine wpAnyH_take (i := 0) (oi := _) (v := ?_) (by simp only [List.getElem?_toArray, List.getElem?_cons_zero]; rfl) (by kernel_rfl) (by kernel_rfl) (by kernel_rfl) (by exact fun _ _ _ h => h) (Or.inl ⟨by rfl, ?hyga0⟩) ((Below.refl _ _).drew) ?rega0
        case hyga0 => (intro u hSw; have e1 := conv_any (B9.out.below hSw B9.out.lt) (by decide); clear hSw; go_simp <;> with_reducible rfl)
        try simp only [Act.put, List.setIfInBounds_toArray, List.set_cons_zero, List.set_cons_succ]
        refine wpAnyH_take (i := 1) (oi := _) (v := ?_) (by simp only [List.getElem?_toArray, List.getElem?_cons_succ, List.getElem?_cons_zero]; rfl) (by kernel_rfl) (by kernel_rfl) (by kernel_rfl) (by exact fun _ _ _ h => h) (Or.inl ⟨by rfl, ?hyga1⟩) ((Below.refl _ _).drew) ?rega1
        case hyga1 => (intro u hSw; have e1 := conv_any (B9.out.below hSw B9.out.lt) (by decide); clear hSw; go_simp <;> with_reducible rfl)
        try simp only [Act.put, List.setIfInBounds_toArray, List.set_cons_zero, List.set_cons_succ]
        refine wpAnyH_take (i := 2) (oi := _) (v := ?_) (by simp only [List.getElem?_toArray, List.getElem?_cons_succ, List.getElem?_cons_zero]; rfl) (by kernel_rfl) (by kernel_rfl) (by kernel_rfl) (by exact fun _ _ _ h => h) (Or.inl ⟨by rfl, ?hyga2⟩) ((Below.refl _ _).drew) ?rega2
        case hyga2 => (intro u hSw; have e1 := conv_any (B9.out.below hSw B9.out.lt) (by decide); clear hSw; go_simp <;> with_reducible rfl)
        try simp only [Act.put, List.setIfInBounds_toArray, List.set_cons_zero, List.set_cons_succ]
        refine wpAnyH_take (i := 3) (oi := _) (v := ?_) (by simp only [List.getElem?_toArray, List.getElem?_cons_succ, List.getElem?_cons_zero]; rfl) (by kernel_rfl) (by kernel_rfl) (by kernel_rfl) (by exact fun _ _ _ h => h) (Or.inl ⟨by rfl, ?hyga3⟩) ((Below.refl _ _).drew) ?rega3
        case hyga3 => (intro u hSw; have e1 := conv_any (B9.out.below hSw B9.out.lt) (by decide); clear hSw; go_simp <;> with_reducible rfl)
        try simp only [Act.put, List.setIfInBounds_toArray, List.set_cons_zero, List.set_cons_succ]
        refine wpAnyH_take (i := 4) (oi := _) (v := ?_) (by simp only [List.getElem?_toArray, List.getElem?_cons_succ, List.getElem?_cons_zero]; rfl) (by kernel_rfl) (by kernel_rfl) (by kernel_rfl) (by exact fun _ _ _ h => h) (Or.inl ⟨by rfl, ?hyga4⟩) ((Below.refl _ _).drew) ?rega4
        case hyga4 => (intro u hSw; have e1 := conv_any (B9.out.below hSw B9.out.lt) (by decide); clear hSw; go_simp <;> with_reducible rfl)
        try simp only [Act.put, List.setIfInBounds_toArray, List.set_cons_zero, List.set_cons_succ]
        refine wpAnyH_ready (rs := [5]) (by kernel_rfl) (by simp) ?_
        refine AllReadyH.cons (o := _) (by simp only [List.getElem?_toArray, List.getElem?_cons_succ, List.getElem?_cons_zero]; rfl) (fun K hK => ?_) AllReadyH.nil
        go_simp
        refine (patch_int 0 0 0 rfl (by decide) _).mono ?_
        rintro e w7 ⟨g7, rfl, hg7, hB7, hb7⟩
        have hS7 : Below w9.heap.size w9 w7 := (Below.refl _ w9).drew.trans (hb7.mono (Nat.le_refl _))
        have S7 := Lib.hid hS7
        have B7 := Lib.hid hB7
        clear hS7 hB7 hb7 hg7
        go_simp
        refine hK.out _ _ S7.out (fun hHeld2 => ?_)
        refine held_strong (T := fun u => Bk u g7 5 (same 0) ∧ Below w9.heap.size w9 u) (by rintro _ ⟨_, h⟩; exact h) _ _ _ _ ?_
        clear hK K hHeld hHeld2
        refine wpAnyH_take (i := 6) (oi := _) (v := ?_) (by simp only [List.getElem?_toArray, List.getElem?_cons_succ, List.getElem?_cons_zero]; rfl) (by kernel_rfl) (by kernel_rfl) (by kernel_rfl) (by exact fun _ _ _ h => h) (Or.inl ⟨by rfl, ?hyha6⟩) (⟨B7.out, S7.out⟩) ?reha6
        case hyha6 => (rintro u ⟨hA, hSw⟩; have e0 := conv_any hA (by decide); have e1 := conv_any (B9.out.below hSw B9.out.lt) (by decide); have e3 := strS_same 0; have e4 := run_field41 u; clear hA hSw; go_simp <;> with_reducible rfl)
        try simp only [Act.put, List.setIfInBounds_toArray, List.set_cons_zero, List.set_cons_succ]
        refine wpAnyH_take (i := 7) (oi := _) (v := ?_) (by simp only [List.getElem?_toArray, List.getElem?_cons_succ, List.getElem?_cons_zero]; rfl) (by kernel_rfl) (by kernel_rfl) (by kernel_rfl) (by exact fun _ _ _ h => h) (Or.inl ⟨by rfl, ?hyha7⟩) (⟨B7.out, S7.out⟩) ?reha7
        case hyha7 => (rintro u ⟨hA, hSw⟩; have e0 := conv_any hA (by decide); have e1 := conv_any (B9.out.below hSw B9.out.lt) (by decide); have e3 := strS_same 0; have e4 := run_field41 u; clear hA hSw; go_simp <;> with_reducible rfl)
        try simp only [Act.put, List.setIfInBounds_toArray, List.set_cons_zero, List.set_cons_succ]
        refine wpAnyH_take (i := 8) (oi := _) (v := ?_) (by simp only [List.getElem?_toArray, List.getElem?_cons_succ, List.getElem?_cons_zero]; rfl) (by kernel_rfl) (by kernel_rfl) (by kernel_rfl) (by exact fun _ _ _ h => h) (Or.inl ⟨by rfl, ?hyha8⟩) (⟨B7.out, S7.out⟩) ?reha8
        case hyha8 => (rintro u ⟨hA, hSw⟩; have e0 := conv_any hA (by decide); have e1 := conv_any (B9.out.below hSw B9.out.lt) (by decide); have e3 := strS_same 0; have e4 := run_field41 u; clear hA hSw; go_simp <;> with_reducible rfl)
        try simp only [Act.put, List.setIfInBounds_toArray, List.set_cons_zero, List.set_cons_succ]
        refine wpAnyH_take (i := 9) (oi := _) (v := ?_) (by simp only [List.getElem?_toArray, List.getElem?_cons_succ, List.getElem?_cons_zero]; rfl) (by kernel_rfl) (by kernel_rfl) (by kernel_rfl) (by exact fun _ _ _ h => h) (Or.inl ⟨by rfl, ?hyha9⟩) (⟨B7.out, S7.out⟩) ?reha9
        case hyha9 => (rintro u ⟨hA, hSw⟩; have e0 := conv_any hA (by decide); have e1 := conv_any (B9.out.below hSw B9.out.lt) (by decide); have e3 := strS_same 0; have e4 := run_field41 u; clear hA hSw; go_simp <;> with_reducible rfl)
        try simp only [Act.put, List.setIfInBounds_toArray, List.set_cons_zero, List.set_cons_succ]
        refine wpAnyH_done (by kernel_rfl) ?_ _
        have OE := Lib.hid (O9.out.below (S7.out.mono (Nat.le_refl _)))
        have LE := Lib.hid (L9.out.trans (S7.out.mono L9.out.size))
        clear B7 S7 B9 O9 L9
        go_wp2
        go_roundw
        case rel => exact ⟨j + 1, V, L', k', S', by omega, by go_num, OE.out, CT.out, STT.out, VT.out, LE.out⟩
        case measure => simp [intOf]; omega
      · go_wp2_with fail
        refine (patch_any at_ ac hac _).mono ?_
        rintro e w5 ⟨g5, rfl, hg5, hB5, hb5⟩
        have O1 := Lib.hid (O0.out.below hb5)
        have L1 := Lib.hid (L0.out.trans (hb5.mono L0.out.size))
        have N5 : Hid (¬ S g5) := O0.out.new hg5
        have B5 := Lib.hid hB5
        clear hg5 hB5 hb5 O LL L0 O0 BA0
        go_wp2_with fail
        refine (cput_all O1.out L1.out.size C.out.fine (by have := HJ.out; omega) at_ B5.out N5.out).mono ?_
        rintro e w6 ⟨err, L', k', S', rfl, hR, hO, hst⟩
        have STT := Lib.hid (stuck_put ST.out C.out hR)
        have OT := Lib.hid hO
        have LT := Lib.hid (L1.out.trans (hst.below O1.out.2 L1.out.size))
        have hcp : ∃ V', Coh 8 1 rm V' (j + 1 + 1) L' k' ∧ ∀ s, V' s < 256 := by
          rcases coh_put C.out Hrl.out.1 (Nat.le_trans Hrl.out.2 (by decide)) hR with ⟨_, t', _, _, hC'⟩ | ⟨_, hC'⟩
          · refine ⟨_, hC', fun s => ?_⟩
            by_cases hst : s = t'
            · simp only [if_pos hst]; exact hac
            · simp only [if_neg hst]; exact HV.out s
          · exact ⟨_, hC', HV.out⟩
        clear hO hst O1 L1 N5 B5 hR
        obtain ⟨V', hC', hV'⟩ := hcp
        have CT := Lib.hid hC'
        have VT := Lib.hid hV'
        clear hC' hV' C ST HV
        obtain ⟨Sd, hd⟩ := OT.out.disk
        have DT := Lib.hid hd
        clear hd
        go_wp2_with fail
        refine (read_any _ _ _ k' DT.out 2 0 (same 0) (.int .u16 0) STT.out.2.1 rfl (same_length _) (same_one _) CT.out.fine.on).mono ?_
        rintro e w9 ⟨rfl, hB9, hb9⟩
        obtain ⟨g9, hg9⟩ : ∃ g9, g9 = w6.heap.size := ⟨_, rfl⟩
        rw [← hg9] at hB9 ⊢
        have B9 := Lib.hid hB9
        have O9 := Lib.hid (OT.out.below hb9)
        have L9 := Lib.hid (LT.out.trans (hb9.mono LT.out.size))
        clear hB9 hb9 hg9 DT OT LT
        go_wp2
        refine wp_region_held_drew (S := fun u : World => Below w9.heap.size w9 u) (by kernel_rfl) (Below.refl _ _).drew (fun hHeld => ?_)
        refine wpAnyH_take (i := 0) (oi := _) (v := ?_) (by simp only [List.getElem?_toArray, List.getElem?_cons_zero]; rfl) (by kernel_rfl) (by kernel_rfl) (by kernel_rfl) (by exact fun _ _ _ h => h) (Or.inl ⟨by rfl, ?hygb0⟩) ((Below.refl _ _).drew) ?regb0
        case hygb0 => (intro u hSw; have e1 := conv_any (B9.out.below hSw B9.out.lt) (by decide); clear hSw; go_simp <;> with_reducible rfl)
        try simp only [Act.put, List.setIfInBounds_toArray, List.set_cons_zero, List.set_cons_succ]
        refine wpAnyH_take (i := 1) (oi := _) (v := ?_) (by simp only [List.getElem?_toArray, List.getElem?_cons_succ, List.getElem?_cons_zero]; rfl) (by kernel_rfl) (by kernel_rfl) (by kernel_rfl) (by exact fun _ _ _ h => h) (Or.inl ⟨by rfl, ?hygb1⟩) ((Below.refl _ _).drew) ?regb1
        case hygb1 => (intro u hSw; have e1 := conv_any (B9.out.below hSw B9.out.lt) (by decide); clear hSw; go_simp <;> with_reducible rfl)
        try simp only [Act.put, List.setIfInBounds_toArray, List.set_cons_zero, List.set_cons_succ]
        refine wpAnyH_take (i := 2) (oi := _) (v := ?_) (by simp only [List.getElem?_toArray, List.getElem?_cons_succ, List.getElem?_cons_zero]; rfl) (by kernel_rfl) (by kernel_rfl) (by kernel_rfl) (by exact fun _ _ _ h => h) (Or.inl ⟨by rfl, ?hygb2⟩) ((Below.refl _ _).drew) ?regb2
        case hygb2 => (intro u hSw; have e1 := conv_any (B9.out.below hSw B9.out.lt) (by decide); clear hSw; go_simp <;> with_reducible rfl)
        try simp only [Act.put, List.setIfInBounds_toArray, List.set_cons_zero, List.set_cons_succ]
        refine wpAnyH_take (i := 3) (oi := _) (v := ?_) (by simp only [List.getElem?_toArray, List.getElem?_cons_succ, List.getElem?_cons_zero]; rfl) (by kernel_rfl) (by kernel_rfl) (by kernel_rfl) (by exact fun _ _ _ h => h) (Or.inl ⟨by rfl, ?hygb3⟩) ((Below.refl _ _).drew) ?regb3
        case hygb3 => (intro u hSw; have e1 := conv_any (B9.out.below hSw B9.out.lt) (by decide); clear hSw; go_simp <;> with_reducible rfl)
        try simp only [Act.put, List.setIfInBounds_toArray, List.set_cons_zero, List.set_cons_succ]
        refine wpAnyH_take (i := 4) (oi := _) (v := ?_) (by simp only [List.getElem?_toArray, List.getElem?_cons_succ, List.getElem?_cons_zero]; rfl) (by kernel_rfl) (by kernel_rfl) (by kernel_rfl) (by exact fun _ _ _ h => h) (Or.inl ⟨by rfl, ?hygb4⟩) ((Below.refl _ _).drew) ?regb4
        case hygb4 => (intro u hSw; have e1 := conv_any (B9.out.below hSw B9.out.lt) (by decide); clear hSw; go_simp <;> with_reducible rfl)
        try simp only [Act.put, List.setIfInBounds_toArray, List.set_cons_zero, List.set_cons_succ]
        refine wpAnyH_ready (rs := [5]) (by kernel_rfl) (by simp) ?_
        refine AllReadyH.cons (o := _) (by simp only [List.getElem?_toArray, List.getElem?_cons_succ, List.getElem?_cons_zero]; rfl) (fun K hK => ?_) AllReadyH.nil
        go_simp
        refine (patch_int 0 0 0 rfl (by decide) _).mono ?_
        rintro e w7 ⟨g7, rfl, hg7, hB7, hb7⟩
        have hS7 : Below w9.heap.size w9 w7 := (Below.refl _ w9).drew.trans (hb7.mono (Nat.le_refl _))
        have S7 := Lib.hid hS7
        have B7 := Lib.hid hB7
        clear hS7 hB7 hb7 hg7
        go_simp
        refine hK.out _ _ S7.out (fun hHeld2 => ?_)
        refine held_strong (T := fun u => Bk u g7 5 (same 0) ∧ Below w9.heap.size w9 u) (by rintro _ ⟨_, h⟩; exact h) _ _ _ _ ?_
        clear hK K hHeld hHeld2
        refine wpAnyH_take (i := 6) (oi := _) (v := ?_) (by simp only [List.getElem?_toArray, List.getElem?_cons_succ, List.getElem?_cons_zero]; rfl) (by kernel_rfl) (by kernel_rfl) (by kernel_rfl) (by exact fun _ _ _ h => h) (Or.inl ⟨by rfl, ?hyhb6⟩) (⟨B7.out, S7.out⟩) ?rehb6
        case hyhb6 => (rintro u ⟨hA, hSw⟩; have e0 := conv_any hA (by decide); have e1 := conv_any (B9.out.below hSw B9.out.lt) (by decide); have e3 := strS_same 0; have e4 := run_field41 u; clear hA hSw; go_simp <;> with_reducible rfl)
        try simp only [Act.put, List.setIfInBounds_toArray, List.set_cons_zero, List.set_cons_succ]
        refine wpAnyH_take (i := 7) (oi := _) (v := ?_) (by simp only [List.getElem?_toArray, List.getElem?_cons_succ, List.getElem?_cons_zero]; rfl) (by kernel_rfl) (by kernel_rfl) (by kernel_rfl) (by exact fun _ _ _ h => h) (Or.inl ⟨by rfl, ?hyhb7⟩) (⟨B7.out, S7.out⟩) ?rehb7
        case hyhb7 => (rintro u ⟨hA, hSw⟩; have e0 := conv_any hA (by decide); have e1 := conv_any (B9.out.below hSw B9.out.lt) (by decide); have e3 := strS_same 0; have e4 := run_field41 u; clear hA hSw; go_simp <;> with_reducible rfl)
        try simp only [Act.put, List.setIfInBounds_toArray, List.set_cons_zero, List.set_cons_succ]
        refine wpAnyH_take (i := 8) (oi := _) (v := ?_) (by simp only [List.getElem?_toArray, List.getElem?_cons_succ, List.getElem?_cons_zero]; rfl) (by kernel_rfl) (by kernel_rfl) (by kernel_rfl) (by exact fun _ _ _ h => h) (Or.inl ⟨by rfl, ?hyhb8⟩) (⟨B7.out, S7.out⟩) ?rehb8
        case hyhb8 => (rintro u ⟨hA, hSw⟩; have e0 := conv_any hA (by decide); have e1 := conv_any (B9.out.below hSw B9.out.lt) (by decide); have e3 := strS_same 0; have e4 := run_field41 u; clear hA hSw; go_simp <;> with_reducible rfl)
        try simp only [Act.put, List.setIfInBounds_toArray, List.set_cons_zero, List.set_cons_succ]
        refine wpAnyH_take (i := 9) (oi := _) (v := ?_) (by simp only [List.getElem?_toArray, List.getElem?_cons_succ, List.getElem?_cons_zero]; rfl) (by kernel_rfl) (by kernel_rfl) (by kernel_rfl) (by exact fun _ _ _ h => h) (Or.inl ⟨by rfl, ?hyhb9⟩) (⟨B7.out, S7.out⟩) ?rehb9
        case hyhb9 => (rintro u ⟨hA, hSw⟩; have e0 := conv_any hA (by decide); have e1 := conv_any (B9.out.below hSw B9.out.lt) (by decide); have e3 := strS_same 0; have e4 := run_field41 u; clear hA hSw; go_simp <;> with_reducible rfl)
        try simp only [Act.put, List.setIfInBounds_toArray, List.set_cons_zero, List.set_cons_succ]
        refine wpAnyH_done (by kernel_rfl) ?_ _
        have OE := Lib.hid (O9.out.below (S7.out.mono (Nat.le_refl _)))
        have LE := Lib.hid (L9.out.trans (S7.out.mono L9.out.size))
        clear B7 S7 B9 O9 L9
        go_wp2
        go_roundw
        case rel => exact ⟨j + 1, V', L', k', S', by omega, by go_num, OE.out, CT.out, STT.out, VT.out, LE.out⟩
        case measure => simp [intOf]; omega
      · have OT := O0
        have LT := L0
        have CT : Hid (Coh 8 1 rm V (j + 1 + 1) L k) := C.out.up (Nat.le_succ _) (Nat.le_refl _)
        have STT := ST
        have VT := HV
        clear O C ST HV LL L0 O0
        obtain ⟨Sd, hd⟩ := OT.out.disk
        have DT := Lib.hid hd
        clear hd
        go_wp2_with fail
        refine (read_any _ _ _ k DT.out 2 0 (same 0) (.int .u16 0) STT.out.2.1 rfl (same_length _) (same_one _) CT.out.fine.on).mono ?_
        rintro e w9 ⟨rfl, hB9, hb9⟩
        obtain ⟨g9, hg9⟩ : ∃ g9, g9 = (wr.alloc (.cells #[.int .u8 (kd : Int), .int .i64 at_, .int .u8 (ac : Int), .slice bA bn bc] 35)).heap.size := ⟨_, rfl⟩
        rw [← hg9] at hB9 ⊢
        have B9 := Lib.hid hB9
        have O9 := Lib.hid (OT.out.below hb9)
        have L9 := Lib.hid (LT.out.trans (hb9.mono LT.out.size))
        clear hB9 hb9 hg9 DT OT LT
        go_wp2
        refine wp_region_held_drew (S := fun u : World => Below w9.heap.size w9 u) (by kernel_rfl) (Below.refl _ _).drew (fun hHeld => ?_)
        refine wpAnyH_take (i := 0) (oi := _) (v := ?_) (by simp only [List.getElem?_toArray, List.getElem?_cons_zero]; rfl) (by kernel_rfl) (by kernel_rfl) (by kernel_rfl) (by exact fun _ _ _ h => h) (Or.inl ⟨by rfl, ?hygc0⟩) ((Below.refl _ _).drew) ?regc0
        case hygc0 => (intro u hSw; have e1 := conv_any (B9.out.below hSw B9.out.lt) (by decide); clear hSw; go_simp <;> with_reducible rfl)
        try simp only [Act.put, List.setIfInBounds_toArray, List.set_cons_zero, List.set_cons_succ]
        refine wpAnyH_take (i := 1) (oi := _) (v := ?_) (by simp only [List.getElem?_toArray, List.getElem?_cons_succ, List.getElem?_cons_zero]; rfl) (by kernel_rfl) (by kernel_rfl) (by kernel_rfl) (by exact fun _ _ _ h => h) (Or.inl ⟨by rfl, ?hygc1⟩) ((Below.refl _ _).drew) ?regc1
        case hygc1 => (intro u hSw; have e1 := conv_any (B9.out.below hSw B9.out.lt) (by decide); clear hSw; go_simp <;> with_reducible rfl)
        try simp only [Act.put, List.setIfInBounds_toArray, List.set_cons_zero, List.set_cons_succ]
        refine wpAnyH_take (i := 2) (oi := _) (v := ?_) (by simp only [List.getElem?_toArray, List.getElem?_cons_succ, List.getElem?_cons_zero]; rfl) (by kernel_rfl) (by kernel_rfl) (by kernel_rfl) (by exact fun _ _ _ h => h) (Or.inl ⟨by rfl, ?hygc2⟩) ((Below.refl _ _).drew) ?regc2
        case hygc2 => (intro u hSw; have e1 := conv_any (B9.out.below hSw B9.out.lt) (by decide); clear hSw; go_simp <;> with_reducible rfl)
        try simp only [Act.put, List.setIfInBounds_toArray, List.set_cons_zero, List.set_cons_succ]
        refine wpAnyH_take (i := 3) (oi := _) (v := ?_) (by simp only [List.getElem?_toArray, List.getElem?_cons_succ, List.getElem?_cons_zero]; rfl) (by kernel_rfl) (by kernel_rfl) (by kernel_rfl) (by exact fun _ _ _ h => h) (Or.inl ⟨by rfl, ?hygc3⟩) ((Below.refl _ _).drew) ?regc3
        case hygc3 => (intro u hSw; have e1 := conv_any (B9.out.below hSw B9.out.lt) (by decide); clear hSw; go_simp <;> with_reducible rfl)
        try simp only [Act.put, List.setIfInBounds_toArray, List.set_cons_zero, List.set_cons_succ]
        refine wpAnyH_take (i := 4) (oi := _) (v := ?_) (by simp only [List.getElem?_toArray, List.getElem?_cons_succ, List.getElem?_cons_zero]; rfl) (by kernel_rfl) (by kernel_rfl) (by kernel_rfl) (by exact fun _ _ _ h => h) (Or.inl ⟨by rfl, ?hygc4⟩) ((Below.refl _ _).drew) ?regc4
        case hygc4 => (intro u hSw; have e1 := conv_any (B9.out.below hSw B9.out.lt) (by decide); clear hSw; go_simp <;> with_reducible rfl)
        try simp only [Act.put, List.setIfInBounds_toArray, List.set_cons_zero, List.set_cons_succ]
        refine wpAnyH_ready (rs := [5]) (by kernel_rfl) (by simp) ?_
        refine AllReadyH.cons (o := _) (by simp only [List.getElem?_toArray, List.getElem?_cons_succ, List.getElem?_cons_zero]; rfl) (fun K hK => ?_) AllReadyH.nil
        go_simp
        refine (patch_int 0 0 0 rfl (by decide) _).mono ?_
        rintro e w7 ⟨g7, rfl, hg7, hB7, hb7⟩
        have hS7 : Below w9.heap.size w9 w7 := (Below.refl _ w9).drew.trans (hb7.mono (Nat.le_refl _))
        have S7 := Lib.hid hS7
        have B7 := Lib.hid hB7
        clear hS7 hB7 hb7 hg7
        go_simp
        refine hK.out _ _ S7.out (fun hHeld2 => ?_)
        refine held_strong (T := fun u => Bk u g7 5 (same 0) ∧ Below w9.heap.size w9 u) (by rintro _ ⟨_, h⟩; exact h) _ _ _ _ ?_
        clear hK K hHeld hHeld2
        refine wpAnyH_take (i := 6) (oi := _) (v := ?_) (by simp only [List.getElem?_toArray, List.getElem?_cons_succ, List.getElem?_cons_zero]; rfl) (by kernel_rfl) (by kernel_rfl) (by kernel_rfl) (by exact fun _ _ _ h => h) (Or.inl ⟨by rfl, ?hyhc6⟩) (⟨B7.out, S7.out⟩) ?rehc6
        case hyhc6 => (rintro u ⟨hA, hSw⟩; have e0 := conv_any hA (by decide); have e1 := conv_any (B9.out.below hSw B9.out.lt) (by decide); have e3 := strS_same 0; have e4 := run_field41 u; clear hA hSw; go_simp <;> with_reducible rfl)
        try simp only [Act.put, List.setIfInBounds_toArray, List.set_cons_zero, List.set_cons_succ]
        refine wpAnyH_take (i := 7) (oi := _) (v := ?_) (by simp only [List.getElem?_toArray, List.getElem?_cons_succ, List.getElem?_cons_zero]; rfl) (by kernel_rfl) (by kernel_rfl) (by kernel_rfl) (by exact fun _ _ _ h => h) (Or.inl ⟨by rfl, ?hyhc7⟩) (⟨B7.out, S7.out⟩) ?rehc7
        case hyhc7 => (rintro u ⟨hA, hSw⟩; have e0 := conv_any hA (by decide); have e1 := conv_any (B9.out.below hSw B9.out.lt) (by decide); have e3 := strS_same 0; have e4 := run_field41 u; clear hA hSw; go_simp <;> with_reducible rfl)
        try simp only [Act.put, List.setIfInBounds_toArray, List.set_cons_zero, List.set_cons_succ]
        refine wpAnyH_take (i := 8) (oi := _) (v := ?_) (by simp only [List.getElem?_toArray, List.getElem?_cons_succ, List.getElem?_cons_zero]; rfl) (by kernel_rfl) (by kernel_rfl) (by kernel_rfl) (by exact fun _ _ _ h => h) (Or.inl ⟨by rfl, ?hyhc8⟩) (⟨B7.out, S7.out⟩) ?rehc8
        case hyhc8 => (rintro u ⟨hA, hSw⟩; have e0 := conv_any hA (by decide); have e1 := conv_any (B9.out.below hSw B9.out.lt) (by decide); have e3 := strS_same 0; have e4 := run_field41 u; clear hA hSw; go_simp <;> with_reducible rfl)
        try simp only [Act.put, List.setIfInBounds_toArray, List.set_cons_zero, List.set_cons_succ]
        refine wpAnyH_take (i := 9) (oi := _) (v := ?_) (by simp only [List.getElem?_toArray, List.getElem?_cons_succ, List.getElem?_cons_zero]; rfl) (by kernel_rfl) (by kernel_rfl) (by kernel_rfl) (by exact fun _ _ _ h => h) (Or.inl ⟨by rfl, ?hyhc9⟩) (⟨B7.out, S7.out⟩) ?rehc9
        case hyhc9 => (rintro u ⟨hA, hSw⟩; have e0 := conv_any hA (by decide); have e1 := conv_any (B9.out.below hSw B9.out.lt) (by decide); have e3 := strS_same 0; have e4 := run_field41 u; clear hA hSw; go_simp <;> with_reducible rfl)
        try simp only [Act.put, List.setIfInBounds_toArray, List.set_cons_zero, List.set_cons_succ]
        refine wpAnyH_done (by kernel_rfl) ?_ _
        have OE := Lib.hid (O9.out.below (S7.out.mono (Nat.le_refl _)))
        have LE := Lib.hid (L9.out.trans (S7.out.mono L9.out.size))
        clear B7 S7 B9 O9 L9
        go_wp2
        go_roundw
        case rel => exact ⟨j + 1, V, L, k, S, by omega, by go_num, OE.out, CT.out, STT.out, VT.out, LE.out⟩
        case measure => simp [intOf]; omega
      · have OT := O0
        have LT := L0
        have CT : Hid (Coh 8 1 rm V (j + 1 + 1) L k) := C.out.up (Nat.le_succ _) (Nat.le_refl _)
        have STT := ST
        have VT := HV
        clear O C ST HV LL L0 O0
        obtain ⟨Sd, hd⟩ := OT.out.disk
        have DT := Lib.hid hd
        clear hd
        go_wp2_with fail
        refine (read_any _ _ _ k DT.out 2 0 (same 0) (.int .u16 0) STT.out.2.1 rfl (same_length _) (same_one _) CT.out.fine.on).mono ?_
        rintro e w9 ⟨rfl, hB9, hb9⟩
        obtain ⟨g9, hg9⟩ : ∃ g9, g9 = (wr.alloc (.cells #[.int .u8 (kd : Int), .int .i64 at_, .int .u8 (ac : Int), .slice bA bn bc] 35)).heap.size := ⟨_, rfl⟩
        rw [← hg9] at hB9 ⊢
        have B9 := Lib.hid hB9
        have O9 := Lib.hid (OT.out.below hb9)
        have L9 := Lib.hid (LT.out.trans (hb9.mono LT.out.size))
        clear hB9 hb9 hg9 DT OT LT
        go_wp2
        refine wp_region_held_drew (S := fun u : World => Below w9.heap.size w9 u) (by kernel_rfl) (Below.refl _ _).drew (fun hHeld => ?_)
        refine wpAnyH_take (i := 0) (oi := _) (v := ?_) (by simp only [List.getElem?_toArray, List.getElem?_cons_zero]; rfl) (by kernel_rfl) (by kernel_rfl) (by kernel_rfl) (by exact fun _ _ _ h => h) (Or.inl ⟨by rfl, ?hygd0⟩) ((Below.refl _ _).drew) ?regd0
        case hygd0 => (intro u hSw; have e1 := conv_any (B9.out.below hSw B9.out.lt) (by decide); clear hSw; go_simp <;> with_reducible rfl)
        try simp only [Act.put, List.setIfInBounds_toArray, List.set_cons_zero, List.set_cons_succ]
        refine wpAnyH_take (i := 1) (oi := _) (v := ?_) (by simp only [List.getElem?_toArray, List.getElem?_cons_succ, List.getElem?_cons_zero]; rfl) (by kernel_rfl) (by kernel_rfl) (by kernel_rfl) (by exact fun _ _ _ h => h) (Or.inl ⟨by rfl, ?hygd1⟩) ((Below.refl _ _).drew) ?regd1
        case hygd1 => (intro u hSw; have e1 := conv_any (B9.out.below hSw B9.out.lt) (by decide); clear hSw; go_simp <;> with_reducible rfl)
        try simp only [Act.put, List.setIfInBounds_toArray, List.set_cons_zero, List.set_cons_succ]
        refine wpAnyH_take (i := 2) (oi := _) (v := ?_) (by simp only [List.getElem?_toArray, List.getElem?_cons_succ, List.getElem?_cons_zero]; rfl) (by kernel_rfl) (by kernel_rfl) (by kernel_rfl) (by exact fun _ _ _ h => h) (Or.inl ⟨by rfl, ?hygd2⟩) ((Below.refl _ _).drew) ?regd2
        case hygd2 => (intro u hSw; have e1 := conv_any (B9.out.below hSw B9.out.lt) (by decide); clear hSw; go_simp <;> with_reducible rfl)
        try simp only [Act.put, List.setIfInBounds_toArray, List.set_cons_zero, List.set_cons_succ]
        refine wpAnyH_take (i := 3) (oi := _) (v := ?_) (by simp only [List.getElem?_toArray, List.getElem?_cons_succ, List.getElem?_cons_zero]; rfl) (by kernel_rfl) (by kernel_rfl) (by kernel_rfl) (by exact fun _ _ _ h => h) (Or.inl ⟨by rfl, ?hygd3⟩) ((Below.refl _ _).drew) ?regd3
        case hygd3 => (intro u hSw; have e1 := conv_any (B9.out.below hSw B9.out.lt) (by decide); clear hSw; go_simp <;> with_reducible rfl)
        try simp only [Act.put, List.setIfInBounds_toArray, List.set_cons_zero, List.set_cons_succ]
        refine wpAnyH_take (i := 4) (oi := _) (v := ?_) (by simp only [List.getElem?_toArray, List.getElem?_cons_succ, List.getElem?_cons_zero]; rfl) (by kernel_rfl) (by kernel_rfl) (by kernel_rfl) (by exact fun _ _ _ h => h) (Or.inl ⟨by rfl, ?hygd4⟩) ((Below.refl _ _).drew) ?regd4
        case hygd4 => (intro u hSw; have e1 := conv_any (B9.out.below hSw B9.out.lt) (by decide); clear hSw; go_simp <;> with_reducible rfl)
        try simp only [Act.put, List.setIfInBounds_toArray, List.set_cons_zero, List.set_cons_succ]
        refine wpAnyH_ready (rs := [5]) (by kernel_rfl) (by simp) ?_
        refine AllReadyH.cons (o := _) (by simp only [List.getElem?_toArray, List.getElem?_cons_succ, List.getElem?_cons_zero]; rfl) (fun K hK => ?_) AllReadyH.nil
        go_simp
        refine (patch_int 0 0 0 rfl (by decide) _).mono ?_
        rintro e w7 ⟨g7, rfl, hg7, hB7, hb7⟩
        have hS7 : Below w9.heap.size w9 w7 := (Below.refl _ w9).drew.trans (hb7.mono (Nat.le_refl _))
        have S7 := Lib.hid hS7
        have B7 := Lib.hid hB7
        clear hS7 hB7 hb7 hg7
        go_simp
        refine hK.out _ _ S7.out (fun hHeld2 => ?_)
        refine held_strong (T := fun u => Bk u g7 5 (same 0) ∧ Below w9.heap.size w9 u) (by rintro _ ⟨_, h⟩; exact h) _ _ _ _ ?_
        clear hK K hHeld hHeld2
        refine wpAnyH_take (i := 6) (oi := _) (v := ?_) (by simp only [List.getElem?_toArray, List.getElem?_cons_succ, List.getElem?_cons_zero]; rfl) (by kernel_rfl) (by kernel_rfl) (by kernel_rfl) (by exact fun _ _ _ h => h) (Or.inl ⟨by rfl, ?hyhd6⟩) (⟨B7.out, S7.out⟩) ?rehd6
        case hyhd6 => (rintro u ⟨hA, hSw⟩; have e0 := conv_any hA (by decide); have e1 := conv_any (B9.out.below hSw B9.out.lt) (by decide); have e3 := strS_same 0; have e4 := run_field41 u; clear hA hSw; go_simp <;> with_reducible rfl)
        try simp only [Act.put, List.setIfInBounds_toArray, List.set_cons_zero, List.set_cons_succ]
        refine wpAnyH_take (i := 7) (oi := _) (v := ?_) (by simp only [List.getElem?_toArray, List.getElem?_cons_succ, List.getElem?_cons_zero]; rfl) (by kernel_rfl) (by kernel_rfl) (by kernel_rfl) (by exact fun _ _ _ h => h) (Or.inl ⟨by rfl, ?hyhd7⟩) (⟨B7.out, S7.out⟩) ?rehd7
        case hyhd7 => (rintro u ⟨hA, hSw⟩; have e0 := conv_any hA (by decide); have e1 := conv_any (B9.out.below hSw B9.out.lt) (by decide); have e3 := strS_same 0; have e4 := run_field41 u; clear hA hSw; go_simp <;> with_reducible rfl)
        try simp only [Act.put, List.setIfInBounds_toArray, List.set_cons_zero, List.set_cons_succ]
        refine wpAnyH_take (i := 8) (oi := _) (v := ?_) (by simp only [List.getElem?_toArray, List.getElem?_cons_succ, List.getElem?_cons_zero]; rfl) (by kernel_rfl) (by kernel_rfl) (by kernel_rfl) (by exact fun _ _ _ h => h) (Or.inl ⟨by rfl, ?hyhd8⟩) (⟨B7.out, S7.out⟩) ?rehd8
        case hyhd8 => (rintro u ⟨hA, hSw⟩; have e0 := conv_any hA (by decide); have e1 := conv_any (B9.out.below hSw B9.out.lt) (by decide); have e3 := strS_same 0; have e4 := run_field41 u; clear hA hSw; go_simp <;> with_reducible rfl)
        try simp only [Act.put, List.setIfInBounds_toArray, List.set_cons_zero, List.set_cons_succ]
        refine wpAnyH_take (i := 9) (oi := _) (v := ?_) (by simp only [List.getElem?_toArray, List.getElem?_cons_succ, List.getElem?_cons_zero]; rfl) (by kernel_rfl) (by kernel_rfl) (by kernel_rfl) (by exact fun _ _ _ h => h) (Or.inl ⟨by rfl, ?hyhd9⟩) (⟨B7.out, S7.out⟩) ?rehd9
        case hyhd9 => (rintro u ⟨hA, hSw⟩; have e0 := conv_any hA (by decide); have e1 := conv_any (B9.out.below hSw B9.out.lt) (by decide); have e3 := strS_same 0; have e4 := run_field41 u; clear hA hSw; go_simp <;> with_reducible rfl)
        try simp only [Act.put, List.setIfInBounds_toArray, List.set_cons_zero, List.set_cons_succ]
        refine wpAnyH_done (by kernel_rfl) ?_ _
        have OE := Lib.hid (O9.out.below (S7.out.mono (Nat.le_refl _)))
        have LE := Lib.hid (L9.out.trans (S7.out.mono L9.out.size))
        clear B7 S7 B9 O9 L9
        go_wp2
        go_roundw
        case rel => exact ⟨j + 1, V, L, k, S, by omega, by go_num, OE.out, CT.out, STT.out, VT.out, LE.out⟩
        case measure => simp [intOf]; omega
      · go_wp2_with fail
        refine (flush_all O0.out L0.out.size C.out.fine (by have := HJ.out; omega) (fun p hp => Nat.le_trans (C.out.pins p hp) (by decide))).mono ?_
        rintro e wT ⟨lf, L', k', S', rfl, hR, hO, hst⟩
        have STT := Lib.hid (stuck_flush ST.out C.out hR)
        have CT : Hid (Coh 8 1 rm V (j + 1 + 1) L' k') := (coh_flush C.out hR).1.up (Nat.zero_le _) (Nat.le_refl _)
        have OT := Lib.hid hO
        have LT := Lib.hid (L0.out.trans (hst.below O0.out.2 L0.out.size))
        have VT := HV
        clear O C ST HV LL L0 O0 hR hO hst
        obtain ⟨Sd, hd⟩ := OT.out.disk
        have DT := Lib.hid hd
        clear hd
        go_wp2_with fail
        refine (read_any _ _ _ k' DT.out 2 0 (same 0) (.int .u16 0) STT.out.2.1 rfl (same_length _) (same_one _) CT.out.fine.on).mono ?_
        rintro e w9 ⟨rfl, hB9, hb9⟩
        obtain ⟨g9, hg9⟩ : ∃ g9, g9 = wT.heap.size := ⟨_, rfl⟩
        rw [← hg9] at hB9 ⊢
        have B9 := Lib.hid hB9
        have O9 := Lib.hid (OT.out.below hb9)
        have L9 := Lib.hid (LT.out.trans (hb9.mono LT.out.size))
        clear hB9 hb9 hg9 DT OT LT
        go_wp2
        refine wp_region_held_drew (S := fun u : World => Below w9.heap.size w9 u) (by kernel_rfl) (Below.refl _ _).drew (fun hHeld => ?_)
        refine wpAnyH_take (i := 0) (oi := _) (v := ?_) (by simp only [List.getElem?_toArray, List.getElem?_cons_zero]; rfl) (by kernel_rfl) (by kernel_rfl) (by kernel_rfl) (by exact fun _ _ _ h => h) (Or.inl ⟨by rfl, ?hyge0⟩) ((Below.refl _ _).drew) ?rege0
        case hyge0 => (intro u hSw; have e1 := conv_any (B9.out.below hSw B9.out.lt) (by decide); clear hSw; go_simp <;> with_reducible rfl)
        try simp only [Act.put, List.setIfInBounds_toArray, List.set_cons_zero, List.set_cons_succ]
        refine wpAnyH_take (i := 1) (oi := _) (v := ?_) (by simp only [List.getElem?_toArray, List.getElem?_cons_succ, List.getElem?_cons_zero]; rfl) (by kernel_rfl) (by kernel_rfl) (by kernel_rfl) (by exact fun _ _ _ h => h) (Or.inl ⟨by rfl, ?hyge1⟩) ((Below.refl _ _).drew) ?rege1
        case hyge1 => (intro u hSw; have e1 := conv_any (B9.out.below hSw B9.out.lt) (by decide); clear hSw; go_simp <;> with_reducible rfl)
        try simp only [Act.put, List.setIfInBounds_toArray, List.set_cons_zero, List.set_cons_succ]
        refine wpAnyH_take (i := 2) (oi := _) (v := ?_) (by simp only [List.getElem?_toArray, List.getElem?_cons_succ, List.getElem?_cons_zero]; rfl) (by kernel_rfl) (by kernel_rfl) (by kernel_rfl) (by exact fun _ _ _ h => h) (Or.inl ⟨by rfl, ?hyge2⟩) ((Below.refl _ _).drew) ?rege2
        case hyge2 => (intro u hSw; have e1 := conv_any (B9.out.below hSw B9.out.lt) (by decide); clear hSw; go_simp <;> with_reducible rfl)
        try simp only [Act.put, List.setIfInBounds_toArray, List.set_cons_zero, List.set_cons_succ]
        refine wpAnyH_take (i := 3) (oi := _) (v := ?_) (by simp only [List.getElem?_toArray, List.getElem?_cons_succ, List.getElem?_cons_zero]; rfl) (by kernel_rfl) (by kernel_rfl) (by kernel_rfl) (by exact fun _ _ _ h => h) (Or.inl ⟨by rfl, ?hyge3⟩) ((Below.refl _ _).drew) ?rege3
        case hyge3 => (intro u hSw; have e1 := conv_any (B9.out.below hSw B9.out.lt) (by decide); clear hSw; go_simp <;> with_reducible rfl)
        try simp only [Act.put, List.setIfInBounds_toArray, List.set_cons_zero, List.set_cons_succ]
        refine wpAnyH_take (i := 4) (oi := _) (v := ?_) (by simp only [List.getElem?_toArray, List.getElem?_cons_succ, List.getElem?_cons_zero]; rfl) (by kernel_rfl) (by kernel_rfl) (by kernel_rfl) (by exact fun _ _ _ h => h) (Or.inl ⟨by rfl, ?hyge4⟩) ((Below.refl _ _).drew) ?rege4
        case hyge4 => (intro u hSw; have e1 := conv_any (B9.out.below hSw B9.out.lt) (by decide); clear hSw; go_simp <;> with_reducible rfl)
        try simp only [Act.put, List.setIfInBounds_toArray, List.set_cons_zero, List.set_cons_succ]
        refine wpAnyH_ready (rs := [5]) (by kernel_rfl) (by simp) ?_
        refine AllReadyH.cons (o := _) (by simp only [List.getElem?_toArray, List.getElem?_cons_succ, List.getElem?_cons_zero]; rfl) (fun K hK => ?_) AllReadyH.nil
        go_simp
        refine (patch_int 0 0 0 rfl (by decide) _).mono ?_
        rintro e w7 ⟨g7, rfl, hg7, hB7, hb7⟩
        have hS7 : Below w9.heap.size w9 w7 := (Below.refl _ w9).drew.trans (hb7.mono (Nat.le_refl _))
        have S7 := Lib.hid hS7
        have B7 := Lib.hid hB7
        clear hS7 hB7 hb7 hg7
        go_simp
        refine hK.out _ _ S7.out (fun hHeld2 => ?_)
        refine held_strong (T := fun u => Bk u g7 5 (same 0) ∧ Below w9.heap.size w9 u) (by rintro _ ⟨_, h⟩; exact h) _ _ _ _ ?_
        clear hK K hHeld hHeld2
        refine wpAnyH_take (i := 6) (oi := _) (v := ?_) (by simp only [List.getElem?_toArray, List.getElem?_cons_succ, List.getElem?_cons_zero]; rfl) (by kernel_rfl) (by kernel_rfl) (by kernel_rfl) (by exact fun _ _ _ h => h) (Or.inl ⟨by rfl, ?hyhe6⟩) (⟨B7.out, S7.out⟩) ?rehe6
        case hyhe6 => (rintro u ⟨hA, hSw⟩; have e0 := conv_any hA (by decide); have e1 := conv_any (B9.out.below hSw B9.out.lt) (by decide); have e3 := strS_same 0; have e4 := run_field41 u; clear hA hSw; go_simp <;> with_reducible rfl)
        try simp only [Act.put, List.setIfInBounds_toArray, List.set_cons_zero, List.set_cons_succ]
        refine wpAnyH_take (i := 7) (oi := _) (v := ?_) (by simp only [List.getElem?_toArray, List.getElem?_cons_succ, List.getElem?_cons_zero]; rfl) (by kernel_rfl) (by kernel_rfl) (by kernel_rfl) (by exact fun _ _ _ h => h) (Or.inl ⟨by rfl, ?hyhe7⟩) (⟨B7.out, S7.out⟩) ?rehe7
        case hyhe7 => (rintro u ⟨hA, hSw⟩; have e0 := conv_any hA (by decide); have e1 := conv_any (B9.out.below hSw B9.out.lt) (by decide); have e3 := strS_same 0; have e4 := run_field41 u; clear hA hSw; go_simp <;> with_reducible rfl)
        try simp only [Act.put, List.setIfInBounds_toArray, List.set_cons_zero, List.set_cons_succ]
        refine wpAnyH_take (i := 8) (oi := _) (v := ?_) (by simp only [List.getElem?_toArray, List.getElem?_cons_succ, List.getElem?_cons_zero]; rfl) (by kernel_rfl) (by kernel_rfl) (by kernel_rfl) (by exact fun _ _ _ h => h) (Or.inl ⟨by rfl, ?hyhe8⟩) (⟨B7.out, S7.out⟩) ?rehe8
        case hyhe8 => (rintro u ⟨hA, hSw⟩; have e0 := conv_any hA (by decide); have e1 := conv_any (B9.out.below hSw B9.out.lt) (by decide); have e3 := strS_same 0; have e4 := run_field41 u; clear hA hSw; go_simp <;> with_reducible rfl)
        try simp only [Act.put, List.setIfInBounds_toArray, List.set_cons_zero, List.set_cons_succ]
        refine wpAnyH_take (i := 9) (oi := _) (v := ?_) (by simp only [List.getElem?_toArray, List.getElem?_cons_succ, List.getElem?_cons_zero]; rfl) (by kernel_rfl) (by kernel_rfl) (by kernel_rfl) (by exact fun _ _ _ h => h) (Or.inl ⟨by rfl, ?hyhe9⟩) (⟨B7.out, S7.out⟩) ?rehe9
        case hyhe9 => (rintro u ⟨hA, hSw⟩; have e0 := conv_any hA (by decide); have e1 := conv_any (B9.out.below hSw B9.out.lt) (by decide); have e3 := strS_same 0; have e4 := run_field41 u; clear hA hSw; go_simp <;> with_reducible rfl)
        try simp only [Act.put, List.setIfInBounds_toArray, List.set_cons_zero, List.set_cons_succ]
        refine wpAnyH_done (by kernel_rfl) ?_ _
        have OE := Lib.hid (O9.out.below (S7.out.mono (Nat.le_refl _)))
        have LE := Lib.hid (L9.out.trans (S7.out.mono L9.out.size))
        clear B7 S7 B9 O9 L9
        go_wp2
        go_roundw
        case rel => exact ⟨j + 1, V, L', k', S', by omega, by go_num, OE.out, CT.out, STT.out, VT.out, LE.out⟩
        case measure => simp [intOf]; omega
      · have OT := O0
        have LT := L0
        have CT : Hid (Coh 8 1 rm V (j + 1 + 1) L k) := C.out.up (Nat.le_succ _) (Nat.le_refl _)
        have STT := ST
        have VT := HV
        clear O C ST HV LL L0 O0
        obtain ⟨Sd, hd⟩ := OT.out.disk
        have DT := Lib.hid hd
        clear hd
        go_wp2_with fail
        refine (read_any _ _ _ k DT.out 2 0 (same 0) (.int .u16 0) STT.out.2.1 rfl (same_length _) (same_one _) CT.out.fine.on).mono ?_
        rintro e w9 ⟨rfl, hB9, hb9⟩
        obtain ⟨g9, hg9⟩ : ∃ g9, g9 = (wr.alloc (.cells #[.int .u8 (kd : Int), .int .i64 at_, .int .u8 (ac : Int), .slice bA bn bc] 35)).heap.size := ⟨_, rfl⟩
        rw [← hg9] at hB9 ⊢
        have B9 := Lib.hid hB9
        have O9 := Lib.hid (OT.out.below hb9)
        have L9 := Lib.hid (LT.out.trans (hb9.mono LT.out.size))
        clear hB9 hb9 hg9 DT OT LT
        go_wp2
        refine wp_region_held_drew (S := fun u : World => Below w9.heap.size w9 u) (by kernel_rfl) (Below.refl _ _).drew (fun hHeld => ?_)
        refine wpAnyH_take (i := 0) (oi := _) (v := ?_) (by simp only [List.getElem?_toArray, List.getElem?_cons_zero]; rfl) (by kernel_rfl) (by kernel_rfl) (by kernel_rfl) (by exact fun _ _ _ h => h) (Or.inl ⟨by rfl, ?hygf0⟩) ((Below.refl _ _).drew) ?regf0
        case hygf0 => (intro u hSw; have e1 := conv_any (B9.out.below hSw B9.out.lt) (by decide); clear hSw; go_simp <;> with_reducible rfl)
        try simp only [Act.put, List.setIfInBounds_toArray, List.set_cons_zero, List.set_cons_succ]
        refine wpAnyH_take (i := 1) (oi := _) (v := ?_) (by simp only [List.getElem?_toArray, List.getElem?_cons_succ, List.getElem?_cons_zero]; rfl) (by kernel_rfl) (by kernel_rfl) (by kernel_rfl) (by exact fun _ _ _ h => h) (Or.inl ⟨by rfl, ?hygf1⟩) ((Below.refl _ _).drew) ?regf1
        case hygf1 => (intro u hSw; have e1 := conv_any (B9.out.below hSw B9.out.lt) (by decide); clear hSw; go_simp <;> with_reducible rfl)
        try simp only [Act.put, List.setIfInBounds_toArray, List.set_cons_zero, List.set_cons_succ]
        refine wpAnyH_take (i := 2) (oi := _) (v := ?_) (by simp only [List.getElem?_toArray, List.getElem?_cons_succ, List.getElem?_cons_zero]; rfl) (by kernel_rfl) (by kernel_rfl) (by kernel_rfl) (by exact fun _ _ _ h => h) (Or.inl ⟨by rfl, ?hygf2⟩) ((Below.refl _ _).drew) ?regf2
        case hygf2 => (intro u hSw; have e1 := conv_any (B9.out.below hSw B9.out.lt) (by decide); clear hSw; go_simp <;> with_reducible rfl)
        try simp only [Act.put, List.setIfInBounds_toArray, List.set_cons_zero, List.set_cons_succ]
        refine wpAnyH_take (i := 3) (oi := _) (v := ?_) (by simp only [List.getElem?_toArray, List.getElem?_cons_succ, List.getElem?_cons_zero]; rfl) (by kernel_rfl) (by kernel_rfl) (by kernel_rfl) (by exact fun _ _ _ h => h) (Or.inl ⟨by rfl, ?hygf3⟩) ((Below.refl _ _).drew) ?regf3
        case hygf3 => (intro u hSw; have e1 := conv_any (B9.out.below hSw B9.out.lt) (by decide); clear hSw; go_simp <;> with_reducible rfl)
        try simp only [Act.put, List.setIfInBounds_toArray, List.set_cons_zero, List.set_cons_succ]
        refine wpAnyH_take (i := 4) (oi := _) (v := ?_) (by simp only [List.getElem?_toArray, List.getElem?_cons_succ, List.getElem?_cons_zero]; rfl) (by kernel_rfl) (by kernel_rfl) (by kernel_rfl) (by exact fun _ _ _ h => h) (Or.inl ⟨by rfl, ?hygf4⟩) ((Below.refl _ _).drew) ?regf4
        case hygf4 => (intro u hSw; have e1 := conv_any (B9.out.below hSw B9.out.lt) (by decide); clear hSw; go_simp <;> with_reducible rfl)
        try simp only [Act.put, List.setIfInBounds_toArray, List.set_cons_zero, List.set_cons_succ]
        refine wpAnyH_ready (rs := [5]) (by kernel_rfl) (by simp) ?_
        refine AllReadyH.cons (o := _) (by simp only [List.getElem?_toArray, List.getElem?_cons_succ, List.getElem?_cons_zero]; rfl) (fun K hK => ?_) AllReadyH.nil
        go_simp
        refine (patch_int 0 0 0 rfl (by decide) _).mono ?_
        rintro e w7 ⟨g7, rfl, hg7, hB7, hb7⟩
        have hS7 : Below w9.heap.size w9 w7 := (Below.refl _ w9).drew.trans (hb7.mono (Nat.le_refl _))
        have S7 := Lib.hid hS7
        have B7 := Lib.hid hB7
        clear hS7 hB7 hb7 hg7
        go_simp
        refine hK.out _ _ S7.out (fun hHeld2 => ?_)
        refine held_strong (T := fun u => Bk u g7 5 (same 0) ∧ Below w9.heap.size w9 u) (by rintro _ ⟨_, h⟩; exact h) _ _ _ _ ?_
        clear hK K hHeld hHeld2
        refine wpAnyH_take (i := 6) (oi := _) (v := ?_) (by simp only [List.getElem?_toArray, List.getElem?_cons_succ, List.getElem?_cons_zero]; rfl) (by kernel_rfl) (by kernel_rfl) (by kernel_rfl) (by exact fun _ _ _ h => h) (Or.inl ⟨by rfl, ?hyhf6⟩) (⟨B7.out, S7.out⟩) ?rehf6
        case hyhf6 => (rintro u ⟨hA, hSw⟩; have e0 := conv_any hA (by decide); have e1 := conv_any (B9.out.below hSw B9.out.lt) (by decide); have e3 := strS_same 0; have e4 := run_field41 u; clear hA hSw; go_simp <;> with_reducible rfl)
        try simp only [Act.put, List.setIfInBounds_toArray, List.set_cons_zero, List.set_cons_succ]
        refine wpAnyH_take (i := 7) (oi := _) (v := ?_) (by simp only [List.getElem?_toArray, List.getElem?_cons_succ, List.getElem?_cons_zero]; rfl) (by kernel_rfl) (by kernel_rfl) (by kernel_rfl) (by exact fun _ _ _ h => h) (Or.inl ⟨by rfl, ?hyhf7⟩) (⟨B7.out, S7.out⟩) ?rehf7
        case hyhf7 => (rintro u ⟨hA, hSw⟩; have e0 := conv_any hA (by decide); have e1 := conv_any (B9.out.below hSw B9.out.lt) (by decide); have e3 := strS_same 0; have e4 := run_field41 u; clear hA hSw; go_simp <;> with_reducible rfl)
        try simp only [Act.put, List.setIfInBounds_toArray, List.set_cons_zero, List.set_cons_succ]
        refine wpAnyH_take (i := 8) (oi := _) (v := ?_) (by simp only [List.getElem?_toArray, List.getElem?_cons_succ, List.getElem?_cons_zero]; rfl) (by kernel_rfl) (by kernel_rfl) (by kernel_rfl) (by exact fun _ _ _ h => h) (Or.inl ⟨by rfl, ?hyhf8⟩) (⟨B7.out, S7.out⟩) ?rehf8
        case hyhf8 => (rintro u ⟨hA, hSw⟩; have e0 := conv_any hA (by decide); have e1 := conv_any (B9.out.below hSw B9.out.lt) (by decide); have e3 := strS_same 0; have e4 := run_field41 u; clear hA hSw; go_simp <;> with_reducible rfl)
        try simp only [Act.put, List.setIfInBounds_toArray, List.set_cons_zero, List.set_cons_succ]
        refine wpAnyH_take (i := 9) (oi := _) (v := ?_) (by simp only [List.getElem?_toArray, List.getElem?_cons_succ, List.getElem?_cons_zero]; rfl) (by kernel_rfl) (by kernel_rfl) (by kernel_rfl) (by exact fun _ _ _ h => h) (Or.inl ⟨by rfl, ?hyhf9⟩) (⟨B7.out, S7.out⟩) ?rehf9
        case hyhf9 => (rintro u ⟨hA, hSw⟩; have e0 := conv_any hA (by decide); have e1 := conv_any (B9.out.below hSw B9.out.lt) (by decide); have e3 := strS_same 0; have e4 := run_field41 u; clear hA hSw; go_simp <;> with_reducible rfl)
        try simp only [Act.put, List.setIfInBounds_toArray, List.set_cons_zero, List.set_cons_succ]
        refine wpAnyH_done (by kernel_rfl) ?_ _
        have OE := Lib.hid (O9.out.below (S7.out.mono (Nat.le_refl _)))
        have LE := Lib.hid (L9.out.trans (S7.out.mono L9.out.size))
        clear B7 S7 B9 O9 L9
        go_wp2
        go_roundw
        case rel => exact ⟨j + 1, V, L, k, S, by omega, by go_num, OE.out, CT.out, STT.out, VT.out, LE.out⟩
        case measure => simp [intOf]; omega
      · have OT := O0
        have LT := L0
        have CT : Hid (Coh 8 1 rm V (j + 1 + 1) L k) := C.out.up (Nat.le_succ _) (Nat.le_refl _)
        have STT := ST
        have VT := HV
        clear O C ST HV LL L0 O0
        obtain ⟨Sd, hd⟩ := OT.out.disk
        have DT := Lib.hid hd
        clear hd
        go_wp2_with fail
        refine (read_any _ _ _ k DT.out 2 0 (same 0) (.int .u16 0) STT.out.2.1 rfl (same_length _) (same_one _) CT.out.fine.on).mono ?_
        rintro e w9 ⟨rfl, hB9, hb9⟩
        obtain ⟨g9, hg9⟩ : ∃ g9, g9 = (wr.alloc (.cells #[.int .u8 (kd : Int), .int .i64 at_, .int .u8 (ac : Int), .slice bA bn bc] 35)).heap.size := ⟨_, rfl⟩
        rw [← hg9] at hB9 ⊢
        have B9 := Lib.hid hB9
        have O9 := Lib.hid (OT.out.below hb9)
        have L9 := Lib.hid (LT.out.trans (hb9.mono LT.out.size))
        clear hB9 hb9 hg9 DT OT LT
        go_wp2
        refine wp_region_held_drew (S := fun u : World => Below w9.heap.size w9 u) (by kernel_rfl) (Below.refl _ _).drew (fun hHeld => ?_)
        refine wpAnyH_take (i := 0) (oi := _) (v := ?_) (by simp only [List.getElem?_toArray, List.getElem?_cons_zero]; rfl) (by kernel_rfl) (by kernel_rfl) (by kernel_rfl) (by exact fun _ _ _ h => h) (Or.inl ⟨by rfl, ?hygg0⟩) ((Below.refl _ _).drew) ?regg0
        case hygg0 => (intro u hSw; have e1 := conv_any (B9.out.below hSw B9.out.lt) (by decide); clear hSw; go_simp <;> with_reducible rfl)
        try simp only [Act.put, List.setIfInBounds_toArray, List.set_cons_zero, List.set_cons_succ]
        refine wpAnyH_take (i := 1) (oi := _) (v := ?_) (by simp only [List.getElem?_toArray, List.getElem?_cons_succ, List.getElem?_cons_zero]; rfl) (by kernel_rfl) (by kernel_rfl) (by kernel_rfl) (by exact fun _ _ _ h => h) (Or.inl ⟨by rfl, ?hygg1⟩) ((Below.refl _ _).drew) ?regg1
        case hygg1 => (intro u hSw; have e1 := conv_any (B9.out.below hSw B9.out.lt) (by decide); clear hSw; go_simp <;> with_reducible rfl)
        try simp only [Act.put, List.setIfInBounds_toArray, List.set_cons_zero, List.set_cons_succ]
        refine wpAnyH_take (i := 2) (oi := _) (v := ?_) (by simp only [List.getElem?_toArray, List.getElem?_cons_succ, List.getElem?_cons_zero]; rfl) (by kernel_rfl) (by kernel_rfl) (by kernel_rfl) (by exact fun _ _ _ h => h) (Or.inl ⟨by rfl, ?hygg2⟩) ((Below.refl _ _).drew) ?regg2
        case hygg2 => (intro u hSw; have e1 := conv_any (B9.out.below hSw B9.out.lt) (by decide); clear hSw; go_simp <;> with_reducible rfl)
        try simp only [Act.put, List.setIfInBounds_toArray, List.set_cons_zero, List.set_cons_succ]
        refine wpAnyH_take (i := 3) (oi := _) (v := ?_) (by simp only [List.getElem?_toArray, List.getElem?_cons_succ, List.getElem?_cons_zero]; rfl) (by kernel_rfl) (by kernel_rfl) (by kernel_rfl) (by exact fun _ _ _ h => h) (Or.inl ⟨by rfl, ?hygg3⟩) ((Below.refl _ _).drew) ?regg3
        case hygg3 => (intro u hSw; have e1 := conv_any (B9.out.below hSw B9.out.lt) (by decide); clear hSw; go_simp <;> with_reducible rfl)
        try simp only [Act.put, List.setIfInBounds_toArray, List.set_cons_zero, List.set_cons_succ]
        refine wpAnyH_take (i := 4) (oi := _) (v := ?_) (by simp only [List.getElem?_toArray, List.getElem?_cons_succ, List.getElem?_cons_zero]; rfl) (by kernel_rfl) (by kernel_rfl) (by kernel_rfl) (by exact fun _ _ _ h => h) (Or.inl ⟨by rfl, ?hygg4⟩) ((Below.refl _ _).drew) ?regg4
        case hygg4 => (intro u hSw; have e1 := conv_any (B9.out.below hSw B9.out.lt) (by decide); clear hSw; go_simp <;> with_reducible rfl)
        try simp only [Act.put, List.setIfInBounds_toArray, List.set_cons_zero, List.set_cons_succ]
        refine wpAnyH_ready (rs := [5]) (by kernel_rfl) (by simp) ?_
        refine AllReadyH.cons (o := _) (by simp only [List.getElem?_toArray, List.getElem?_cons_succ, List.getElem?_cons_zero]; rfl) (fun K hK => ?_) AllReadyH.nil
        go_simp
        refine (patch_int 0 0 0 rfl (by decide) _).mono ?_
        rintro e w7 ⟨g7, rfl, hg7, hB7, hb7⟩
        have hS7 : Below w9.heap.size w9 w7 := (Below.refl _ w9).drew.trans (hb7.mono (Nat.le_refl _))
        have S7 := Lib.hid hS7
        have B7 := Lib.hid hB7
        clear hS7 hB7 hb7 hg7
        go_simp
        refine hK.out _ _ S7.out (fun hHeld2 => ?_)
        refine held_strong (T := fun u => Bk u g7 5 (same 0) ∧ Below w9.heap.size w9 u) (by rintro _ ⟨_, h⟩; exact h) _ _ _ _ ?_
        clear hK K hHeld hHeld2
        refine wpAnyH_take (i := 6) (oi := _) (v := ?_) (by simp only [List.getElem?_toArray, List.getElem?_cons_succ, List.getElem?_cons_zero]; rfl) (by kernel_rfl) (by kernel_rfl) (by kernel_rfl) (by exact fun _ _ _ h => h) (Or.inl ⟨by rfl, ?hyhg6⟩) (⟨B7.out, S7.out⟩) ?rehg6
        case hyhg6 => (rintro u ⟨hA, hSw⟩; have e0 := conv_any hA (by decide); have e1 := conv_any (B9.out.below hSw B9.out.lt) (by decide); have e3 := strS_same 0; have e4 := run_field41 u; clear hA hSw; go_simp <;> with_reducible rfl)
        try simp only [Act.put, List.setIfInBounds_toArray, List.set_cons_zero, List.set_cons_succ]
        refine wpAnyH_take (i := 7) (oi := _) (v := ?_) (by simp only [List.getElem?_toArray, List.getElem?_cons_succ, List.getElem?_cons_zero]; rfl) (by kernel_rfl) (by kernel_rfl) (by kernel_rfl) (by exact fun _ _ _ h => h) (Or.inl ⟨by rfl, ?hyhg7⟩) (⟨B7.out, S7.out⟩) ?rehg7
        case hyhg7 => (rintro u ⟨hA, hSw⟩; have e0 := conv_any hA (by decide); have e1 := conv_any (B9.out.below hSw B9.out.lt) (by decide); have e3 := strS_same 0; have e4 := run_field41 u; clear hA hSw; go_simp <;> with_reducible rfl)
        try simp only [Act.put, List.setIfInBounds_toArray, List.set_cons_zero, List.set_cons_succ]
        refine wpAnyH_take (i := 8) (oi := _) (v := ?_) (by simp only [List.getElem?_toArray, List.getElem?_cons_succ, List.getElem?_cons_zero]; rfl) (by kernel_rfl) (by kernel_rfl) (by kernel_rfl) (by exact fun _ _ _ h => h) (Or.inl ⟨by rfl, ?hyhg8⟩) (⟨B7.out, S7.out⟩) ?rehg8
        case hyhg8 => (rintro u ⟨hA, hSw⟩; have e0 := conv_any hA (by decide); have e1 := conv_any (B9.out.below hSw B9.out.lt) (by decide); have e3 := strS_same 0; have e4 := run_field41 u; clear hA hSw; go_simp <;> with_reducible rfl)
        try simp only [Act.put, List.setIfInBounds_toArray, List.set_cons_zero, List.set_cons_succ]
        refine wpAnyH_take (i := 9) (oi := _) (v := ?_) (by simp only [List.getElem?_toArray, List.getElem?_cons_succ, List.getElem?_cons_zero]; rfl) (by kernel_rfl) (by kernel_rfl) (by kernel_rfl) (by exact fun _ _ _ h => h) (Or.inl ⟨by rfl, ?hyhg9⟩) (⟨B7.out, S7.out⟩) ?rehg9
        case hyhg9 => (rintro u ⟨hA, hSw⟩; have e0 := conv_any hA (by decide); have e1 := conv_any (B9.out.below hSw B9.out.lt) (by decide); have e3 := strS_same 0; have e4 := run_field41 u; clear hA hSw; go_simp <;> with_reducible rfl)
        try simp only [Act.put, List.setIfInBounds_toArray, List.set_cons_zero, List.set_cons_succ]
        refine wpAnyH_done (by kernel_rfl) ?_ _
        have OE := Lib.hid (O9.out.below (S7.out.mono (Nat.le_refl _)))
        have LE := Lib.hid (L9.out.trans (S7.out.mono L9.out.size))
        clear B7 S7 B9 O9 L9
        go_wp2
        go_roundw
        case rel => exact ⟨j + 1, V, L, k, S, by omega, by go_num, OE.out, CT.out, STT.out, VT.out, LE.out⟩
        case measure => simp [intOf]; omega
      · have OT := O0
        have LT := L0
        have CT : Hid (Coh 8 1 rm V (j + 1 + 1) L k) := C.out.up (Nat.le_succ _) (Nat.le_refl _)
        have STT := ST
        have VT := HV
        clear O C ST HV LL L0 O0
        obtain ⟨Sd, hd⟩ := OT.out.disk
        have DT := Lib.hid hd
        clear hd
        go_wp2_with fail
        refine (read_any _ _ _ k DT.out 2 0 (same 0) (.int .u16 0) STT.out.2.1 rfl (same_length _) (same_one _) CT.out.fine.on).mono ?_
        rintro e w9 ⟨rfl, hB9, hb9⟩
        obtain ⟨g9, hg9⟩ : ∃ g9, g9 = (wr.alloc (.cells #[.int .u8 (kd : Int), .int .i64 at_, .int .u8 (ac : Int), .slice bA bn bc] 35)).heap.size := ⟨_, rfl⟩
        rw [← hg9] at hB9 ⊢
        have B9 := Lib.hid hB9
        have O9 := Lib.hid (OT.out.below hb9)
        have L9 := Lib.hid (LT.out.trans (hb9.mono LT.out.size))
        clear hB9 hb9 hg9 DT OT LT
        go_wp2
        refine wp_region_held_drew (S := fun u : World => Below w9.heap.size w9 u) (by kernel_rfl) (Below.refl _ _).drew (fun hHeld => ?_)
        refine wpAnyH_take (i := 0) (oi := _) (v := ?_) (by simp only [List.getElem?_toArray, List.getElem?_cons_zero]; rfl) (by kernel_rfl) (by kernel_rfl) (by kernel_rfl) (by exact fun _ _ _ h => h) (Or.inl ⟨by rfl, ?hygh0⟩) ((Below.refl _ _).drew) ?regh0
        case hygh0 => (intro u hSw; have e1 := conv_any (B9.out.below hSw B9.out.lt) (by decide); clear hSw; go_simp <;> with_reducible rfl)
        try simp only [Act.put, List.setIfInBounds_toArray, List.set_cons_zero, List.set_cons_succ]
        refine wpAnyH_take (i := 1) (oi := _) (v := ?_) (by simp only [List.getElem?_toArray, List.getElem?_cons_succ, List.getElem?_cons_zero]; rfl) (by kernel_rfl) (by kernel_rfl) (by kernel_rfl) (by exact fun _ _ _ h => h) (Or.inl ⟨by rfl, ?hygh1⟩) ((Below.refl _ _).drew) ?regh1
        case hygh1 => (intro u hSw; have e1 := conv_any (B9.out.below hSw B9.out.lt) (by decide); clear hSw; go_simp <;> with_reducible rfl)
        try simp only [Act.put, List.setIfInBounds_toArray, List.set_cons_zero, List.set_cons_succ]
        refine wpAnyH_take (i := 2) (oi := _) (v := ?_) (by simp only [List.getElem?_toArray, List.getElem?_cons_succ, List.getElem?_cons_zero]; rfl) (by kernel_rfl) (by kernel_rfl) (by kernel_rfl) (by exact fun _ _ _ h => h) (Or.inl ⟨by rfl, ?hygh2⟩) ((Below.refl _ _).drew) ?regh2
        case hygh2 => (intro u hSw; have e1 := conv_any (B9.out.below hSw B9.out.lt) (by decide); clear hSw; go_simp <;> with_reducible rfl)
        try simp only [Act.put, List.setIfInBounds_toArray, List.set_cons_zero, List.set_cons_succ]
        refine wpAnyH_take (i := 3) (oi := _) (v := ?_) (by simp only [List.getElem?_toArray, List.getElem?_cons_succ, List.getElem?_cons_zero]; rfl) (by kernel_rfl) (by kernel_rfl) (by kernel_rfl) (by exact fun _ _ _ h => h) (Or.inl ⟨by rfl, ?hygh3⟩) ((Below.refl _ _).drew) ?regh3
        case hygh3 => (intro u hSw; have e1 := conv_any (B9.out.below hSw B9.out.lt) (by decide); clear hSw; go_simp <;> with_reducible rfl)
        try simp only [Act.put, List.setIfInBounds_toArray, List.set_cons_zero, List.set_cons_succ]
        refine wpAnyH_take (i := 4) (oi := _) (v := ?_) (by simp only [List.getElem?_toArray, List.getElem?_cons_succ, List.getElem?_cons_zero]; rfl) (by kernel_rfl) (by kernel_rfl) (by kernel_rfl) (by exact fun _ _ _ h => h) (Or.inl ⟨by rfl, ?hygh4⟩) ((Below.refl _ _).drew) ?regh4
        case hygh4 => (intro u hSw; have e1 := conv_any (B9.out.below hSw B9.out.lt) (by decide); clear hSw; go_simp <;> with_reducible rfl)
        try simp only [Act.put, List.setIfInBounds_toArray, List.set_cons_zero, List.set_cons_succ]
        refine wpAnyH_ready (rs := [5]) (by kernel_rfl) (by simp) ?_
        refine AllReadyH.cons (o := _) (by simp only [List.getElem?_toArray, List.getElem?_cons_succ, List.getElem?_cons_zero]; rfl) (fun K hK => ?_) AllReadyH.nil
        go_simp
        refine (patch_int 0 0 0 rfl (by decide) _).mono ?_
        rintro e w7 ⟨g7, rfl, hg7, hB7, hb7⟩
        have hS7 : Below w9.heap.size w9 w7 := (Below.refl _ w9).drew.trans (hb7.mono (Nat.le_refl _))
        have S7 := Lib.hid hS7
        have B7 := Lib.hid hB7
        clear hS7 hB7 hb7 hg7
        go_simp
        refine hK.out _ _ S7.out (fun hHeld2 => ?_)
        refine held_strong (T := fun u => Bk u g7 5 (same 0) ∧ Below w9.heap.size w9 u) (by rintro _ ⟨_, h⟩; exact h) _ _ _ _ ?_
        clear hK K hHeld hHeld2
        refine wpAnyH_take (i := 6) (oi := _) (v := ?_) (by simp only [List.getElem?_toArray, List.getElem?_cons_succ, List.getElem?_cons_zero]; rfl) (by kernel_rfl) (by kernel_rfl) (by kernel_rfl) (by exact fun _ _ _ h => h) (Or.inl ⟨by rfl, ?hyhh6⟩) (⟨B7.out, S7.out⟩) ?rehh6
        case hyhh6 => (rintro u ⟨hA, hSw⟩; have e0 := conv_any hA (by decide); have e1 := conv_any (B9.out.below hSw B9.out.lt) (by decide); have e3 := strS_same 0; have e4 := run_field41 u; clear hA hSw; go_simp <;> with_reducible rfl)
        try simp only [Act.put, List.setIfInBounds_toArray, List.set_cons_zero, List.set_cons_succ]
        refine wpAnyH_take (i := 7) (oi := _) (v := ?_) (by simp only [List.getElem?_toArray, List.getElem?_cons_succ, List.getElem?_cons_zero]; rfl) (by kernel_rfl) (by kernel_rfl) (by kernel_rfl) (by exact fun _ _ _ h => h) (Or.inl ⟨by rfl, ?hyhh7⟩) (⟨B7.out, S7.out⟩) ?rehh7
        case hyhh7 => (rintro u ⟨hA, hSw⟩; have e0 := conv_any hA (by decide); have e1 := conv_any (B9.out.below hSw B9.out.lt) (by decide); have e3 := strS_same 0; have e4 := run_field41 u; clear hA hSw; go_simp <;> with_reducible rfl)
        try simp only [Act.put, List.setIfInBounds_toArray, List.set_cons_zero, List.set_cons_succ]
        refine wpAnyH_take (i := 8) (oi := _) (v := ?_) (by simp only [List.getElem?_toArray, List.getElem?_cons_succ, List.getElem?_cons_zero]; rfl) (by kernel_rfl) (by kernel_rfl) (by kernel_rfl) (by exact fun _ _ _ h => h) (Or.inl ⟨by rfl, ?hyhh8⟩) (⟨B7.out, S7.out⟩) ?rehh8
        case hyhh8 => (rintro u ⟨hA, hSw⟩; have e0 := conv_any hA (by decide); have e1 := conv_any (B9.out.below hSw B9.out.lt) (by decide); have e3 := strS_same 0; have e4 := run_field41 u; clear hA hSw; go_simp <;> with_reducible rfl)
        try simp only [Act.put, List.setIfInBounds_toArray, List.set_cons_zero, List.set_cons_succ]
        refine wpAnyH_take (i := 9) (oi := _) (v := ?_) (by simp only [List.getElem?_toArray, List.getElem?_cons_succ, List.getElem?_cons_zero]; rfl) (by kernel_rfl) (by kernel_rfl) (by kernel_rfl) (by exact fun _ _ _ h => h) (Or.inl ⟨by rfl, ?hyhh9⟩) (⟨B7.out, S7.out⟩) ?rehh9
        case hyhh9 => (rintro u ⟨hA, hSw⟩; have e0 := conv_any hA (by decide); have e1 := conv_any (B9.out.below hSw B9.out.lt) (by decide); have e3 := strS_same 0; have e4 := run_field41 u; clear hA hSw; go_simp <;> with_reducible rfl)
        try simp only [Act.put, List.setIfInBounds_toArray, List.set_cons_zero, List.set_cons_succ]
        refine wpAnyH_done (by kernel_rfl) ?_ _
        have OE := Lib.hid (O9.out.below (S7.out.mono (Nat.le_refl _)))
        have LE := Lib.hid (L9.out.trans (S7.out.mono L9.out.size))
        clear B7 S7 B9 O9 L9
        go_wp2
        go_roundw
        case rel => exact ⟨j + 1, V, L, k, S, by omega, by go_num, OE.out, CT.out, STT.out, VT.out, LE.out⟩
        case measure => simp [intOf]; omega
    · obtain rfl : j = q := by omega
      have hj120 : j ≤ 120 := by omega
      go_wp2_with fail
      refine (get_all O.out LL.out.size C.out.fine (by omega) 2).mono ?_
      rintro e w5 ⟨v, err, L', k', S', rfl, hR, hO, hst, hv⟩
      obtain rfl := stuck_hit ST.out C.out hR
      have hC5 := (coh_get C.out Hrl.out.1 (Nat.le_trans Hrl.out.2 (by decide)) hR).1
      have hT5 := stuck_get ST.out C.out hR
      obtain ⟨g, t, x, M, rfl, hg1, hg2, hBg, ht, hLM, hSg⟩ : ∃ (g t : Nat) (x : Sl) (M : List (Nat × Sl)), v = .slice (some ⟨g, 0, none⟩) 64 64 ∧ w.heap.size ≤ g ∧ wr.heap.size ≤ g ∧ Bk w5 g 65 (same x.c) ∧ (2 : Int) = (t : Int) ∧ L' = M ++ [(t, x)] ∧ ∀ j, S' j → j ≠ g := by
        rcases hv with ⟨_, h⟩ | ⟨h, _⟩
        · exact h
        · exact absurd rfl h
      obtain rfl : t = 2 := by omega
      have hxc : x.c = V 2 := hC5.val 2 x (by rw [hLM]; simp)
      rw [hxc] at hBg
      have O5 := Lib.hid hO
      have C5 := Lib.hid hC5
      have T5 := Lib.hid hT5
      have B5 := Lib.hid hBg
      have N5 := Lib.hid hSg
      have L5 := Lib.hid (LL.out.trans (hst.below O.out.2 LL.out.size))
      clear hR hO hst hv hC5 hT5 hg1 hg2 hBg ht hLM hSg hxc O C ST LL
      go_wp2_with fail
      refine (unpin_all O5.out L5.out.size C5.out.fine (fun p hp => Nat.le_trans (C5.out.pins p hp) (by decide)) 2 (by unfold I64; decide)).mono ?_
      rintro e w6 ⟨err, L6', S6, rfl, hR, hO, hst⟩
      obtain ⟨rfl, hz⟩ := stuck_unpin T5.out C5.out hR
      have hC6 : Coh 8 0 rm V (j + 1 + 1) L6' k' := { coh_unpin C5.out hR with pins := fun p hp => Nat.le_of_eq (hz p hp) }
      have O6 := Lib.hid hO
      have C6 := Lib.hid hC6
      have B6 := Lib.hid (hst.bk B5.out fun h => N5.out g h rfl)
      have N6 : Hid (¬ S6 g) := hst.not B5.out.lt fun h => N5.out g h rfl
      have L6 := Lib.hid (L5.out.trans (hst.below O5.out.2 L5.out.size))
      clear hR hO hst hz hC6 O5 C5 T5 B5 N5 L5
      go_wp2_with fail
      refine (flush_all O6.out L6.out.size C6.out.fine (by omega) (fun p hp => Nat.le_trans (C6.out.pins p hp) (by decide))).mono ?_
      rintro e w7 ⟨lf, L7', k7, S7, rfl, hR, hO, hst⟩
      obtain ⟨hC7, _, hcl7, _, _⟩ := coh_flush C6.out hR
      have hnow := hC7.now 2 (by decide) fun x hx => hcl7 _ hx (Nat.le_zero.1 (hC7.pins _ hx))
      have hdead := hC7.fine.on
      have Hnow := Lib.hid hnow
      have Hdead := Lib.hid hdead
      have O7 := Lib.hid hO
      have B7 := Lib.hid (hst.bk B6.out N6.out)
      have L7 := Lib.hid (L6.out.trans (hst.below O6.out.2 L6.out.size))
      clear hR hO hst hC7 hcl7 hnow hdead O6 C6 B6 N6 L6
      obtain ⟨Sd, hd⟩ := O7.out.disk
      have D7 := Lib.hid hd
      clear hd O7
      go_wp2_with fail
      refine (read_any _ _ _ k7 D7.out 2 (V 2) (same (V 2)) (.int .u16 (V 2 : Int)) Hnow.out rfl (same_length _) (same_one _) Hdead.out).mono ?_
      rintro e w8 ⟨rfl, hB8, hb8⟩
      obtain ⟨g8, hg8⟩ : ∃ g8, g8 = w7.heap.size := ⟨_, rfl⟩
      rw [← hg8] at hB8 ⊢
      have e1 := conv_any hB8 (HV.out 2)
      have e2 := conv_any (B7.out.below hb8 B7.out.lt) (HV.out 2)
      have e3 := strS_same (V 2)
      have L8 := Lib.hid (L7.out.trans (hb8.mono L7.out.size))
      clear hB8 hb8 hg8 B7 L7 D7
      go_wp2
      go_ret
      exact ⟨rfl, L8.out⟩

theorem pinned_int (x : Int) (hx : 0 ≤ x) (hx2 : x < 256) (l : List Act) (A : Option Addr) (n c : Nat) (w : World) (hn : l.length = n) (hc : n ≤ c) (hm : c ≤ 9223372036854775807) (ha : Acts w w.heap.size A l) :
    Calls Try.prog 4 #[.int .u8 x, .slice A n c] w fun e w' => e = .returned (.bool true) ∧ Below w.heap.size w w' := by
  obtain ⟨r, rfl⟩ : ∃ r : Nat, x = (r : Int) := ⟨x.toNat, by omega⟩
  exact pinned_walk r (by omega) l A n c w hn hc hm ha

theorem pinned_contract (H : Type) (enc : TypeId × Value → H) (W : World) (base : Nat) (args : Array Value) (ds gs : List (DataW H)) (before : List MemPlace)
    (hval : ∀ (j : Nat) t v, Try.f4.params[j]? = some t → args[j]? = some v → Value.okWide Try.prog W .any base t v)
    (hW : DataW.Whole enc Try.prog Try.f4.params.toList Rows.cachePinnedSpec.vars false W args.toList ds gs before) :
    Calls Try.prog 4 args W fun e W' => ∃ v, e = .returned v ∧ Rows.cachePinnedSpec.post enc Try.prog Try.f4 false true false false W args v W' := by
  have hW' := hW
  have hlt : ∀ x ∈ before, x.block < W.heap.size := fun x hx => hW.lt x hx
  obtain ⟨p, q, hA0, hV, rfl, _, _⟩ := hW
  have hA : DataW.TrodAll enc Try.prog W 0 (fun _ => true) true Try.f4.params.toList args.toList ds p := hA0
  rw [Try.params4] at hA hval
  obtain ⟨v0, vs0, d0, ds0, p0, q0, hargs, rfl, rfl, h0, r0⟩ := trodAll_cons hA
  obtain ⟨v1, vs1, d1, ds1, p1, q1, rfl, rfl, rfl, h1, r1⟩ := trodAll_cons r0
  obtain ⟨rfl, rfl, rfl⟩ := trodAll_nil r1
  obtain rfl : args = #[v0, v1] := by cases args; simp_all
  obtain ⟨rfl, rfl⟩ := trodVars_none hV
  clear hA0
  obtain ⟨a0, rfl, rfl, rfl, wa0⟩ := open_int Try.underlying5 (hval 0 5 v0 rfl rfl) h0
  have bd0 := bounds_u8 wa0
  obtain ⟨A1, n1, c1, l1, rfl, hn1, hc1, hm1, hr1⟩ := open_actsL (hval 1 22 v1 rfl rfl) h1 (fun x hx => hlt x (by simp [hx]))
  unfold maxLen at hm1
  refine (pinned_int a0 (by omega) (by omega) l1 A1 n1 c1 W hn1 hc1 (by omega) hr1).mono fun e W' ⟨he, hb⟩ => ?_
  subst he
  exact ⟨_, rfl, law_post laid (by kernel_rfl) Try.underlying4 (by rw [Try.params4]; decide +kernel) rfl hW' ⟨rfl, rfl, rfl⟩ hb⟩

set_option maxRecDepth 100000 in
theorem pinned_lifted (os : Os) (started : os.Started) (H : Type) (enc : TypeId × Value → H) :
    ReturnsInHanded {} Try.checked os 4 .any (Rows.cachePinnedSpec.pre6 enc Try.prog Try.f4 Rows.cachePinnedRow.domain false) (Rows.cachePinnedSpec.post enc Try.prog Try.f4 false true false false) := by
  refine returnsInHanded_of_change (C := Try.checked) own started (by kernel_rfl) Try.func4
    (ChangeSpec.witness6 (enc := enc) (C := Try.checked) false ⟨#[], #[.int .u8 0, .slice none 0 0], []⟩ 8 (by kernel_rfl) (by kernel_rfl) (by kernel_rfl) (by kernel_rfl)) ?_
  intro W base args ds gs before hval hW _ _
  exact pinned_contract H enc W base args ds gs before hval hW

/-- CachePinned is true for every input. -/
theorem pinned_holds : Rows.CachePinnedSaid :=
  OpenClaim.holds_of_wide 4 Try.f4 rfl rfl rfl rfl rfl rfl rfl ⟨rfl, rfl, rfl, rfl, rfl⟩ rfl rfl rfl rfl rfl (by kernel_rfl) Try.func4 (by kernel_rfl)
    (of_decide_eq_true (by kernel_rfl)) (by unfold Func.isWrapper; first | (rw [if_pos (by decide +kernel)]; kernel_rfl) | (rw [if_neg (by decide +kernel)]; exact ⟨rfl, rfl⟩))
    (fun os started H enc _ => pinned_lifted os started H enc)
end Go.Proofs.Ytnmfpgeojggjbaa
