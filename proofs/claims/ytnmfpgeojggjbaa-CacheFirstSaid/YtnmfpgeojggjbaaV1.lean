/-
  Making room in a cache.
-/
import Derived.Test.YtnmfpgeojggjbaaV0
namespace Go.Proofs.Ytnmfpgeojggjbaa
open Go.RowKit
attribute [local go_sem ↓] Go.wp_at_zero Go.wp_at_succ

/-- Is the sector not pinned? -/
def freeAt (L : List (Nat × Sl)) (s : Int) : Bool := L.any fun p => decide ((p.1 : Int) = s) && p.2.pins == 0
theorem freeAt_mem {L : List (Nat × Sl)} (hn : (L.map (·.1)).Nodup) {p : Nat × Sl} (hp : p ∈ L) : freeAt L (p.1 : Int) = (p.2.pins == 0) := by
  rw [Bool.eq_iff_iff]
  simp only [freeAt, List.any_eq_true, Bool.and_eq_true, decide_eq_true_eq]
  constructor
  · rintro ⟨q, hq, h1, h2⟩
    have h3 : q.1 = p.1 := by omega
    obtain ⟨i, hi, rfl⟩ := List.getElem_of_mem hq
    obtain ⟨j, hj, rfl⟩ := List.getElem_of_mem hp
    obtain rfl := nodup_inj hn (i := i) (j := j) (by simpa using hi) (by simpa using hj) (by simpa using h3)
    exact h2
  · exact fun h => ⟨p, hp, rfl, h⟩
theorem findIdx_congr {α : Type} {p q : α → Bool} : ∀ {l : List α}, (∀ x ∈ l, p x = q x) → l.findIdx? p = l.findIdx? q
  | [], _ => rfl
  | x :: l, h => by
    rw [List.findIdx?_cons, List.findIdx?_cons, h x (by simp), findIdx_congr fun y hy => h y (by simp [hy])]
theorem firstAt_keys {L : List (Nat × Sl)} (hn : (L.map (·.1)).Nodup) : firstAt (freeAt L) (keysI L) = match L.findIdx? (fun p => p.2.pins == 0) with | none => -1 | some i => (i : Int) := by
  have h : L.findIdx? (freeAt L ∘ fun p => (p.1 : Int)) = L.findIdx? (fun p => p.2.pins == 0) := findIdx_congr fun p hp => freeAt_mem hn hp
  unfold firstAt keysI
  rw [List.findIdx?_map, h]
  cases L.findIdx? (fun p => p.2.pins == 0) <;> rfl

section
variable {w : World} {S : Nat → Prop} {b bd room bm : Nat} {vo : Value} {O : List Int} {L : List (Nat × Sl)} {E : List En} {k : Dk Nat}

theorem unpinned_any (p : Nat) (hp : w.cell? ⟨p, 0, none⟩ = some (.pointer (some ⟨b, 0, none⟩))) (hm : CMem w b bd room bm vo O E) {e : En} (he : e ∈ E) (hs : e.s ≤ 4096) :
    Calls Try.prog 39 #[.int .i64 (e.s : Int), .pointer (some ⟨p, 0, none⟩)] w fun e1 w' => e1 = .returned (.bool (e.x.pins == 0)) ∧ w = w' := by
  have hlk := hm.look (e.s : Int) (I64_nat hs)
  rw [hm.at_ he] at hlk
  change _ = Result.ok (Value.pointer (some ⟨e.g, 0, none⟩)) w at hlk
  have c2 := hm.c2
  have c66 := ((hm.sl e he).cell 66).trans (Sl.get66 _)
  have hb : (((e.x.pins : Int)) == 0) = (e.x.pins == 0) := by
    rw [Bool.eq_iff_iff]; simp
  clear hm he hs
  generalize e.s = s at *
  generalize e.g = g at *
  generalize e.x.pins = n at *
  go_enter Try.func39, Try.ntmps39
  go_wp2
  go_ret
  exact ⟨rfl, rfl⟩

/-- What is so of the world once the cache's pointer lies in a box. -/
structure Boxed (w W : World) (Sd : Nat → Prop) (b bd room bm : Nat) (vo : Value) (O : List Int) (E : List En) (k : Dk Nat) : Prop where
  mem : CMem W b bd room bm vo O E
  disk : IsDisk sec W Sd bd k
  box : W.cell? ⟨w.heap.size, 0, none⟩ = some (.pointer (some ⟨b, 0, none⟩))
  below : Below w.heap.size w W
  lt : w.heap.size < W.heap.size
theorem boxed {Sd : Nat → Prop} (hm : CMem w b bd room bm vo O E) (hd : IsDisk sec w Sd bd k) (n : Nat) : Boxed w ((w.alloc (.cells #[.pointer (some ⟨b, 0, none⟩)] 28)).drewN n) Sd b bd room bm vo O E k := by
  have hb : Below w.heap.size w (w.alloc (.cells #[.pointer (some ⟨b, 0, none⟩)] 28)) := (Below.refl _ w).alloc (Nat.le_refl _) _
  exact ⟨hm.keep fun i hi => hb.block i (hm.lt hi), hd.keep fun i hi => hb.block i (hd.lt hi), (Bk.new w 28 [.pointer (some ⟨b, 0, none⟩)]).cell 0, ⟨hb.os, hb.tape, hb.output, hb.size, hb.block⟩, by show w.heap.size < (w.alloc _).heap.size; simp⟩
theorem Boxed.same {Sd : Nat → Prop} {W : World} (hm : CMem w b bd room bm vo O E) (hd : IsDisk sec w Sd bd k) (h : Boxed w W Sd b bd room bm vo O E k) : BTurned (fun i => cfoot b bm vo (E.map (·.g)) i ∨ Sd i) w W b bd room O (E.map En.sx) k :=
  Both.new ⟨_, _, rfl, ⟨bm, vo, E, rfl, hm, rfl⟩, hd⟩ h.below
theorem len_drewN (hm : CMem w b bd room bm vo O E) (n : Nat) (ty : TypeId) : (Builtin.len_ #[60] ty #[.map (some bm)]).run Try.prog ((w.alloc (.cells #[.pointer (some ⟨b, 0, none⟩)] 28)).drewN n) = .ok (.int .i64 (E.length : Int)) ((w.alloc (.cells #[.pointer (some ⟨b, 0, none⟩)] 28)).drewN n) := by
  have hb : Below w.heap.size w (w.alloc (.cells #[.pointer (some ⟨b, 0, none⟩)] 28)) := (Below.refl _ w).alloc (Nat.le_refl _) _
  exact (hm.map.keep (w' := (w.alloc (.cells #[.pointer (some ⟨b, 0, none⟩)] 28)).drewN n) (hb.block bm hm.map.lt)).len Try.underlying60 ty

set_option maxRecDepth 100000 in
set_option maxHeartbeats 1600000 in
/-- There is room. -/
theorem room_free (h : Both w S b bd room O L k) (hr : L.length < room) :
    Calls Try.prog 27 #[.pointer (some ⟨b, 0, none⟩)] w fun e w' => e = .returned (.int .i64 0) ∧ BTurned S w w' b bd room O L k := by
  obtain ⟨Sc, Sd, rfl, ⟨bm, vo, E, rfl, hm, rfl⟩, hd⟩ := h
  have F : Hid (∀ n, BTurned (fun i => cfoot b bm vo (E.map (·.g)) i ∨ Sd i) w ((w.alloc (.cells #[.pointer (some ⟨b, 0, none⟩)] 28)).drewN n) b bd room O (E.map En.sx) k) := fun n => (boxed hm hd n).same hm hd
  have M1 := hm.keep (w' := w.alloc (.cells #[.pointer (some ⟨b, 0, none⟩)] 28)) fun i hi => Below.heap_alloc w _ i (hm.lt hi)
  have hlen := len_drewN hm
  have c2 := M1.c2
  have c1 := M1.c1
  have hr' : (E.length : Int) < (room : Int) := by simp at hr; omega
  clear hm hd M1 hr
  go_enter Try.func27, Try.ntmps27
  go_wp2
  go_quiet (fail)
  go_wp2
  go_ret
  exact ⟨rfl, F.out nq⟩

set_option maxRecDepth 100000 in
set_option maxHeartbeats 1600000 in
/-- All are pinned. -/
theorem room_full (h : Both w S b bd room (keysI L) L k) (hr : room ≤ L.length) (hi : L.findIdx? (fun p => p.2.pins == 0) = none) (hg : ∀ p ∈ L, p.1 ≤ 4096) :
    Calls Try.prog 27 #[.pointer (some ⟨b, 0, none⟩)] w fun e w' => e = .returned (.int .i64 5) ∧ BTurned S w w' b bd room (keysI L) L k := by
  have hnd := h.nodup
  obtain ⟨Sc, Sd, rfl, ⟨bm, vo, E, rfl, hm, rfl⟩, hd⟩ := h
  have F : Hid (∀ n, BTurned (fun i => cfoot b bm vo (E.map (·.g)) i ∨ Sd i) w ((w.alloc (.cells #[.pointer (some ⟨b, 0, none⟩)] 28)).drewN n) b bd room (keysI (E.map En.sx)) (E.map En.sx) k) := fun n => (boxed hm hd n).same hm hd
  have B : Hid (∀ n, Boxed w ((w.alloc (.cells #[.pointer (some ⟨b, 0, none⟩)] 28)).drewN n) Sd b bd room bm vo (keysI (E.map En.sx)) E k) := boxed hm hd
  have M1 := hm.keep (w' := w.alloc (.cells #[.pointer (some ⟨b, 0, none⟩)] 28)) fun i hi => Below.heap_alloc w _ i (hm.lt hi)
  have hlen := len_drewN hm
  have c2 := M1.c2
  have c1 := M1.c1
  have c3 := M1.c3
  have hr' : ¬ ((E.length : Int) < (room : Int)) := by simp at hr; omega
  have hx := firstAt_keys hnd
  rw [hi] at hx
  have Hx : Hid (firstAt (freeAt (E.map En.sx)) (keysI (E.map En.sx)) = -1) := hx
  have hcl : Hid (∀ n, ∀ x ∈ keysI (E.map En.sx), Calls Try.prog 39 #[.int .i64 x, .pointer (some ⟨w.heap.size, 0, none⟩)] ((w.alloc (.cells #[.pointer (some ⟨b, 0, none⟩)] 28)).drewN n) fun e w' => e = .returned (.bool (freeAt (E.map En.sx) x)) ∧ ((w.alloc (.cells #[.pointer (some ⟨b, 0, none⟩)] 28)).drewN n) = w') := fun n x hx => by
    obtain ⟨p, hp, rfl⟩ := List.mem_map.1 hx
    obtain ⟨e, he, rfl⟩ := List.mem_map.1 hp
    rw [freeAt_mem hnd hp]
    exact unpinned_any _ (B.out n).box (B.out n).mem he (hg _ hp)
  clear hm hd M1 hr hx hi hg hnd
  go_enter Try.func27, Try.ntmps27
  go_wp2
  go_quiet (fail)
  go_wp2_with (go_at_call 38; refine (indexFunc_any _ _ (B.out nq).mem.ord (hcl.out nq)).mono ?_; rintro e w' ⟨rfl, rfl⟩; rw [Hx.out])
  go_ret
  exact ⟨rfl, F.out nq⟩

theorem keys_split {i s : Nat} {x : Sl} (hL : L[i]? = some (s, x)) : keysI L = keysI (L.take i) ++ (s : Int) :: keysI (L.drop (i + 1)) ∧ (keysI (L.take i)).length = i ∧ keysI (L.eraseIdx i) = keysI (L.take i) ++ keysI (L.drop (i + 1)) := by
  obtain ⟨hi, he⟩ := List.getElem?_eq_some_iff.1 hL
  refine ⟨?_, by simp [keysI]; omega, by rw [List.eraseIdx_eq_take_drop_succ]; simp [keysI]⟩
  have : L = L.take i ++ L[i] :: L.drop (i + 1) := by rw [← List.drop_eq_getElem_cons hi, List.take_append_drop]
  have h2 := congrArg keysI this
  rw [he] at h2
  rw [h2]
  simp [keysI]

/-- The end of an eviction. -/
theorem evict_end {Sd : Nat → Prop} {W W3 W4 : World} {v4 : Value} {O' : List Int} (hm : CMem W b bd room bm vo O E) (hd : IsDisk sec W Sd bd k) {i : Nat} {e : En} (he : E[i]? = some e)
    (hK : W.grownBy W3 (some bm)) (hM : MapIs ptrR ptrD none W3 bm (fun k => if k = (e.s : Int) then none else blkAt (E.map En.sg) k) (fun k => k != (e.s : Int) && hasKey (E.map En.sg) k) (if hasKey (E.map En.sg) (e.s : Int) then E.length - 1 else E.length))
    (hG : W3.grownBy W4 vo.ownBlock) (hI : Ints W4 0 v4 O') (hv : v4.ownBlock = vo.ownBlock) :
    BTurned (fun i => cfoot b bm vo (E.map (·.g)) i ∨ Sd i) W (W4.setCell ⟨b, 3, none⟩ v4) b bd room O' ((E.map En.sx).eraseIdx i) k := by
  obtain ⟨hi, rfl⟩ := List.getElem?_eq_some_iff.1 he
  have m3 := hm.less hi hK hM
  have m5 := m3.reorder hG hI
  have hsub : ∀ j, j ∈ (E.eraseIdx i).map (·.g) → j ∈ E.map (·.g) := fun j hj => ((List.eraseIdx_sublist E i).map _).subset hj
  refine BTurned.cache (Sc' := cfoot b bm v4 ((E.eraseIdx i).map (·.g))) ⟨bm, vo, E, rfl, hm, rfl⟩ hd ?_ ⟨bm, v4, _, rfl, m5, by rw [Go.ChangeMaps.map_eraseIdx]⟩ fun j hj => ?_
  · have k1 := Kept.of_grown (S := cfoot b bm vo (E.map (·.g))) hK fun j hj => .inr (.inl (by injection hj with hj; exact hj.symm))
    have k2 := Kept.of_grown (S := cfoot b bm vo (E.map (·.g))) hG fun j hj => .inr (.inr (.inl hj))
    have k3 := Kept.of_grown (S := cfoot b bm vo (E.map (·.g))) (only_set (World.grownBy.refl W4 (some b)) 3 v4) fun j hj => .inl (by injection hj with hj; exact hj.symm)
    exact (k1.trans k2 fun j hj => .inl hj).trans k3 fun j hj => .inl hj
  · rcases hj with h | h | h | h
    · exact .inl (.inl h)
    · exact .inl (.inr (.inl h))
    · exact .inl (.inr (.inr (.inl (hv ▸ h))))
    · exact .inl (.inr (.inr (.inr (hsub j h))))

set_option maxRecDepth 100000 in
set_option maxHeartbeats 3200000 in
/-- One goes. -/
theorem room_evict (h : Both w S b bd room (keysI L) L k) (hr : room ≤ L.length) {i s : Nat} {x : Sl} (hi : L.findIdx? (fun p => p.2.pins == 0) = some i) (hL : L[i]? = some (s, x)) (hg : ∀ p ∈ L, p.1 < k.safe.length) (hn : k.safe.length ≤ 4096)
    (ht : x.dirty = true → x.tag = x.c) (hoff : k.off = false) (hun : k.un.length ≤ 1073741824) (hlen : L.length ≤ 1000000) :
    Calls Try.prog 27 #[.pointer (some ⟨b, 0, none⟩)] w fun e w' => e = .returned (.int .i64 0) ∧ BTurned S w w' b bd room (keysI (L.eraseIdx i)) (L.eraseIdx i) (cleanK k s x) := by
  have hnd := h.nodup
  have hil : i < L.length := (List.getElem?_eq_some_iff.1 hL).1
  obtain ⟨ks1, ks2, ks3⟩ := keys_split hL
  have hsl := hg _ (List.mem_of_getElem? hL)
  obtain ⟨Sc, Sd, rfl, ⟨bm, vo, E, rfl, hm, hLE⟩, hd⟩ := h
  have hik : i < (keysI L).length := by simpa [keysI] using hil
  have hks : (keysI L)[i]? = some (s : Int) := by rw [keysI, List.getElem?_map, hL]; rfl
  obtain ⟨go, co, hv⟩ : ∃ go co, vo = .slice (some ⟨go, 0, none⟩) (keysI L).length co := by
    obtain ⟨go, co, hv, _⟩ := hm.ord.get hik
    exact ⟨go, co, hv⟩
  obtain ⟨n, hnn⟩ : ∃ n, n = (keysI L).length := ⟨_, rfl⟩
  rw [← hnn] at hv
  subst hv
  have hin : (i : Int) < (n : Int) := by omega
  have Hik := Lib.hid hik
  have Hks := Lib.hid hks
  clear hks hnn hik
  have hB : ∀ n', Boxed w ((w.alloc (.cells #[.pointer (some ⟨b, 0, none⟩)] 28)).drewN n') Sd b bd room bm (.slice (some ⟨go, 0, none⟩) n co) (keysI L) E k := boxed hm hd
  have M1 := hm.keep (w' := w.alloc (.cells #[.pointer (some ⟨b, 0, none⟩)] 28)) fun i hi => Below.heap_alloc w _ i (hm.lt hi)
  have hlen' := len_drewN hm
  have c2 := M1.c2
  have c1 := M1.c1
  have hr' : ¬ ((E.length : Int) < (room : Int)) := by have : E.length = L.length := by rw [hLE]; simp
                                                       omega
  have hx := firstAt_keys hnd
  rw [hi] at hx
  have Hx : Hid (firstAt (freeAt L) (keysI L) = (i : Int)) := hx
  have hcl : Hid (∀ n, ∀ x ∈ keysI L, Calls Try.prog 39 #[.int .i64 x, .pointer (some ⟨w.heap.size, 0, none⟩)] ((w.alloc (.cells #[.pointer (some ⟨b, 0, none⟩)] 28)).drewN n) fun e w' => e = .returned (.bool (freeAt L x)) ∧ ((w.alloc (.cells #[.pointer (some ⟨b, 0, none⟩)] 28)).drewN n) = w') := fun n x hx => by
    obtain ⟨p, hp, rfl⟩ := List.mem_map.1 hx
    have hp' := hp
    rw [hLE] at hp'
    obtain ⟨e, he, rfl⟩ := List.mem_map.1 hp'
    rw [freeAt_mem hnd hp]
    exact unpinned_any _ (hB n).box (hB n).mem he (Nat.le_trans (Nat.le_of_lt (hg _ hp)) hn)
  have B := Lib.hid hB
  have HL := Lib.hid hL
  have Hg := Lib.hid hg
  have Hn := Lib.hid hn
  have Ht := Lib.hid ht
  have Hoff := Lib.hid hoff
  have Hun := Lib.hid hun
  have K1 := Lib.hid ks1
  have K2 := Lib.hid ks2
  have K3 := Lib.hid ks3
  have Hsl := Lib.hid hsl
  have HLE := Lib.hid hLE
  have Hil := Lib.hid hil
  have Hlt : Hid (∀ j, (cfoot b bm (.slice (some ⟨go, 0, none⟩) n co) (E.map (·.g)) j ∨ Sd j) → j < w.heap.size) := fun j hj => hj.elim hm.lt hd.lt
  have hi0 : ¬ ((i : Int) < 0) := by omega
  have Hi6 : Hid (i ≤ 1000000) := by unfold Hid; omega
  clear hm hd M1 hr hx hi hg hnd hn ht hoff hun ks1 ks2 ks3 hsl hLE hL hB hil hlen
  go_enter Try.func27, Try.ntmps27
  go_wp2
  go_quiet (fail)
  have B1 := Lib.hid (B.out nq)
  have hcl1 := Lib.hid (hcl.out nq)
  clear hcl hlen' B
  generalize (w.alloc (.cells #[.pointer (some ⟨b, 0, none⟩)] 28)).drewN nq = W at B1 hcl1 ⊢
  have hbox := B1.out.box
  have c3 := B1.out.mem.c3
  have hci : W.cell? ⟨go, i, none⟩ = some (.int .i64 (s : Int)) := by
    obtain ⟨g', c', hv, hc, _⟩ := B1.out.mem.ord.get Hik.out
    cases hv
    have := Hks.out
    rw [List.getElem?_eq_getElem Hik.out] at this
    injection this with this
    rw [this] at hc
    exact hc
  clear c2 c1
  go_wp2_with fail
  refine (indexFunc_any (freeAt L) _ B1.out.mem.ord hcl1.out).mono ?_
  rintro e W' ⟨rfl, rfl⟩
  rw [Hx.out]
  have BB : Hid (Both W (fun j => cfoot b bm (.slice (some ⟨go, 0, none⟩) n co) (E.map (·.g)) j ∨ Sd j) b bd room (keysI L) L k) := ⟨_, _, rfl, ⟨bm, _, E, rfl, B1.out.mem, HLE.out⟩, B1.out.disk⟩
  go_wp2_with fail
  refine (clean_any BB.out HL.out Hsl.out Hn.out Ht.out Hoff.out Hun.out).mono ?_
  rintro e W2 ⟨rfl, hK2, S2, ⟨Sc2, Sd2, rfl, ⟨bm2, vo2, E2, rfl, hm2, hL2⟩, hd2⟩, hS2⟩
  have hx2 : ∃ e2, E2[i]? = some e2 ∧ e2.s = s := by
    have : (E2.map En.sx)[i]? = some (s, cleanS x) := by rw [← hL2, List.getElem?_set_self (by have := Hil.out; omega)]
    obtain ⟨e2, h1, h2, _⟩ := en_at this
    exact ⟨e2, h1, h2⟩
  obtain ⟨e2, he2, hes⟩ := hx2
  have hbox2 : W2.cell? ⟨w.heap.size, 0, none⟩ = some (.pointer (some ⟨b, 0, none⟩)) := (World.cell?_of_block (a := ⟨w.heap.size, 0, none⟩) (hK2.block _ B1.out.lt fun h => absurd (Hlt.out _ h) (Nat.lt_irrefl _))).trans hbox
  have c22 := hm2.c2
  obtain ⟨A2, n2, cap2, hv2⟩ := hm2.ord.any
  subst hv2
  have c32 := hm2.c3
  have M2 := Lib.hid hm2
  have D2 := Lib.hid hd2
  have HE2 := Lib.hid he2
  have HS2 := Lib.hid hS2
  have HK2 := Lib.hid hK2
  have HL2 := Lib.hid hL2
  have Hes := Lib.hid hes
  clear hm2 hd2 he2 hS2 hK2 hL2 hes hbox hci
  go_wp2_with (at_delete; refine wpList_mdel (R := ptrR) (dat := ptrD) (z := none) rfl (.tmp 40) (.tmp 41) rfl Try.underlying60 rfl M2.out.map (s := (s : Int)) (I64_nat (Nat.le_trans (Nat.le_of_lt Hsl.out) Hn.out)) rfl ?_; intro W3 hM3 hG3; have M3 := Lib.hid hM3; have G3 := Lib.hid hG3; clear hM3 hG3)
  have hp : ∀ j, cfoot b bm2 (.slice A2 n2 cap2) (E2.map (·.g)) j → j ≠ w.heap.size := fun j hj e => by
    rcases HS2.out j (.inl hj) with h | h
    · have := Hlt.out j h; omega
    · have := B1.out.lt; omega
  have hB3 : Bk W3 b 62 _ := (G3.out.block b M2.out.blk.lt fun e => M2.out.b_bm (by injection e)).trans M2.out.blk
  have c33 := hB3.cell 3
  have f33 := hB3.frozen 3
  have hbox3 : W3.cell? ⟨w.heap.size, 0, none⟩ = some (.pointer (some ⟨b, 0, none⟩)) := (World.cell?_of_block (a := ⟨w.heap.size, 0, none⟩) (G3.out.block _ (by have := HK2.out.size; have := B1.out.lt; show w.heap.size < _; omega) fun e => hp bm2 (.inr (.inl rfl)) (by injection e with e; exact e.symm))).trans hbox2
  have hI3 : Ints W3.drew 0 (.slice A2 n2 cap2) (keysI L) := M2.out.ord.keep fun g hg => G3.out.block g (M2.out.ord.lt hg).1 fun e => M2.out.o_bm hg (by injection e)
  rw [K1.out] at hI3
  have hdel := delete_any (keysI (L.take i)) (keysI (L.drop (i + 1))) (s : Int) hI3
  rw [K2.out] at hdel
  have Hdel := Lib.hid hdel
  have Hwr : Hid (IntKind.i64.wrap ((i : Int) + 1) = (i : Int) + 1) := by
    unfold Hid
    rw [IntKind.wrap_i64]
    have := Hi6.out
    omega
  have HB3 := Lib.hid hB3
  have Hp := Lib.hid hp
  have Hbl : Hid (w.heap.size < W3.heap.size) := by have := HK2.out.size; have := B1.out.lt; have := G3.out.size; unfold Hid; omega
  have G3' : Hid (W2.grownBy W3.drew (some bm2)) := ⟨G3.out.os, G3.out.tape, G3.out.output, G3.out.size, G3.out.block⟩
  have Fin : Hid (∀ (W4 : World) (v4 : Value), v4.ownBlock = (Value.slice A2 n2 cap2).ownBlock → Ints W4 0 v4 (keysI (L.take i) ++ keysI (L.drop (i + 1))) → W3.drew.grownBy W4 (Value.slice A2 n2 cap2).ownBlock →
      BTurned (fun j => cfoot b bm (.slice (some ⟨go, 0, none⟩) n co) (E.map (·.g)) j ∨ Sd j) w (W4.setCell ⟨b, 3, none⟩ v4) b bd room (keysI (L.eraseIdx i)) (L.eraseIdx i) (cleanK k s x)) := fun W4 v4 hv4 hI4 hG4 => by
    have hfin := evict_end M2.out D2.out HE2.out (W3 := W3.drew) (W4 := W4) G3'.out (by rw [Hes.out]; exact M3.out.keep rfl) hG4 hI4 hv4
    rw [← K3.out, ← HL2.out, List.eraseIdx_set_eq] at hfin
    refine BTurned.trans ((Kept.of_below B1.out.below).trans HK2.out fun j hj => .inl hj) (fun j hj => ?_) hfin
    rcases HS2.out j hj with h | h
    · exact .inl h
    · exact .inr (Nat.le_trans B1.out.below.size h)
  clear hdel hI3 hB3 hp c32 c22 hbox2 c3
  go_region_with (first | (go_at_call 37; (refine (Hdel.out _ Hwr.out).mono ?_); rintro e W4 ⟨v4, rfl, hv4, hI4, hG4⟩; obtain ⟨A4, n4, cap4, rfl⟩ := hI4.any; have hB4 : Bk W4 b 62 _ := (hG4.block b HB3.out.lt fun e => M2.out.o_b e.symm rfl).trans HB3.out; have hbox4 : W4.cell? ⟨w.heap.size, 0, none⟩ = some (.pointer (some ⟨b, 0, none⟩)) := (World.cell?_of_block (a := ⟨w.heap.size, 0, none⟩) (hG4.block _ Hbl.out fun e => Hp.out w.heap.size (.inr (.inr (.inl e.symm))) rfl)).trans hbox3; have c34 := hB4.cell 3; have f34 := hB4.frozen 3; have Hv4 := Lib.hid hv4; have HI4 := Lib.hid hI4; have HG4 := Lib.hid hG4; clear hv4 hI4 hG4 hB4))
  all_goals (go_wp2; go_ret; exact ⟨rfl, Fin.out _ _ Hv4.out HI4.out HG4.out⟩)
end
end Go.Proofs.Ytnmfpgeojggjbaa
