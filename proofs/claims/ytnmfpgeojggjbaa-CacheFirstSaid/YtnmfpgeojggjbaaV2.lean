/-
  Loading a sector into a cache.
-/
import Derived.Test.YtnmfpgeojggjbaaV1
namespace Go.Proofs.Ytnmfpgeojggjbaa
open Go.RowKit
attribute [local go_sem ↓] Go.wp_at_zero Go.wp_at_succ

/-- How room is made, on paper. -/
def roomK (room : Nat) (L : List (Nat × Sl)) (k : Dk Nat) : Option (List (Nat × Sl) × Dk Nat) :=
  if L.length < room then some (L, k) else
  match L.findIdx? (fun p => p.2.pins == 0) with
  | none => none
  | some i => match L[i]? with | none => none | some p => some (L.eraseIdx i, cleanK k p.1 p.2)

/-- What holds of a cache and its disk while the power is on, N writes not being safe. -/
structure Fine (N : Nat) (L : List (Nat × Sl)) (k : Dk Nat) : Prop where
  key : ∀ p ∈ L, p.1 < k.safe.length
  tag : ∀ p ∈ L, p.2.dirty = true → p.2.tag = p.2.c
  n : k.safe.length ≤ 4096
  on : k.dead = false
  nocut : k.cut = false
  un : k.un.length ≤ N
  len : L.length ≤ 10000
theorem Fine.noff {N : Nat} {L : List (Nat × Sl)} {k : Dk Nat} (F : Fine N L k) : k.off = false := by simp [Dk.off, F.on, F.nocut]
theorem Fine.up {N M : Nat} {L : List (Nat × Sl)} {k : Dk Nat} (F : Fine N L k) (h : N ≤ M) : Fine M L k := ⟨F.key, F.tag, F.n, F.on, F.nocut, Nat.le_trans F.un h, F.len⟩

theorem dk_op_on {k : Dk Nat} (h1 : k.dead = false) (h2 : k.cut = false) : k.op = { k with done := wrap64 (k.done + 1) } := by
  unfold Dk.op
  have : k.off = false := by simp [Dk.off, h1, h2]
  rw [this, if_neg (by decide), h2, if_neg (by decide)]
theorem wrote_on {k : Dk Nat} (h1 : k.dead = false) (h2 : k.cut = false) (s c : Nat) : k.wrote s c = { k with done := wrap64 (k.done + 1), un := k.un ++ [(s, c)] } := by
  unfold Dk.wrote
  rw [dk_op_on h1 h2]
theorem wrote_now {k : Dk Nat} (h1 : k.dead = false) (h2 : k.cut = false) (s c : Nat) : (k.wrote s c).now = k.now.set s c := by
  rw [wrote_on h1 h2]
  show puts k.safe (k.un ++ [(s, c)]) = _
  rw [puts_append]
  rfl
theorem cleanK_fine {N : Nat} {L : List (Nat × Sl)} {k : Dk Nat} (F : Fine N L k) (s : Nat) (x : Sl) : Fine (N + 1) L (cleanK k s x) := by
  unfold cleanK
  split
  · rw [wrote_on F.on F.nocut]
    exact ⟨F.key, F.tag, F.n, F.on, F.nocut, by have := F.un; simp; omega, F.len⟩
  · exact F.up (Nat.le_succ _)
theorem Fine.sub {N : Nat} {L L' : List (Nat × Sl)} {k : Dk Nat} (F : Fine N L k) (h : L'.Sublist L) : Fine N L' k :=
  ⟨fun p hp => F.key p (h.subset hp), fun p hp => F.tag p (h.subset hp), F.n, F.on, F.nocut, F.un, Nat.le_trans h.length_le F.len⟩
theorem roomK_fine {N room : Nat} {L L1 : List (Nat × Sl)} {k k1 : Dk Nat} (F : Fine N L k) (hk : roomK room L k = some (L1, k1)) : Fine (N + 1) L1 k1 := by
  unfold roomK at hk
  split at hk
  · cases hk; exact F.up (Nat.le_succ _)
  · split at hk
    · cases hk
    · split at hk
      · cases hk
      · cases hk
        exact (cleanK_fine F _ _).sub (List.eraseIdx_sublist _ _)
theorem roomK_sub {room : Nat} {L L1 : List (Nat × Sl)} {k k1 : Dk Nat} (hk : roomK room L k = some (L1, k1)) : L1.Sublist L := by
  unfold roomK at hk
  split at hk
  · cases hk; exact List.Sublist.refl _
  · split at hk
    · cases hk
    · split at hk
      · cases hk
      · cases hk
        exact List.eraseIdx_sublist _ _
theorem cleanK_len (k : Dk Nat) (s : Nat) (x : Sl) : (cleanK k s x).safe.length = k.safe.length := by
  unfold cleanK
  split
  · show k.op.safe.length = _
    rw [Dk.op_safe]
  · rfl
theorem roomK_len {room : Nat} {L L1 : List (Nat × Sl)} {k k1 : Dk Nat} (hk : roomK room L k = some (L1, k1)) : k1.safe.length = k.safe.length := by
  unfold roomK at hk
  split at hk
  · cases hk; rfl
  · split at hk
    · cases hk
    · split at hk
      · cases hk
      · cases hk
        exact cleanK_len _ _ _

section
variable {N : Nat} {w : World} {S : Nat → Prop} {b bd room bm : Nat} {vo : Value} {O : List Int} {L L1 : List (Nat × Sl)} {E : List En} {k k1 : Dk Nat}

theorem room_none (h : Both w S b bd room (keysI L) L k) (F : Fine N L k) (hk : roomK room L k = none) :
    Calls Try.prog 27 #[.pointer (some ⟨b, 0, none⟩)] w fun e w' => e = .returned (.int .i64 5) ∧ BTurned S w w' b bd room (keysI L) L k := by
  unfold roomK at hk
  split at hk
  · cases hk
  · rename_i hr
    split at hk
    · rename_i hi
      exact room_full h (by omega) hi fun p hp => Nat.le_trans (Nat.le_of_lt (F.key p hp)) F.n
    · rename_i i hi
      obtain ⟨hil, _⟩ := List.findIdx?_eq_some_iff_getElem.1 hi
      rw [List.getElem?_eq_getElem hil] at hk
      cases hk
theorem room_some (h : Both w S b bd room (keysI L) L k) (F : Fine N L k) (hN : N ≤ 1000000000) (hk : roomK room L k = some (L1, k1)) :
    Calls Try.prog 27 #[.pointer (some ⟨b, 0, none⟩)] w fun e w' => e = .returned (.int .i64 0) ∧ BTurned S w w' b bd room (keysI L1) L1 k1 := by
  unfold roomK at hk
  split at hk
  · rename_i hr
    cases hk
    exact room_free h hr
  · rename_i hr
    split at hk
    · cases hk
    · rename_i i hi
      obtain ⟨hil, _⟩ := List.findIdx?_eq_some_iff_getElem.1 hi
      have hL := List.getElem?_eq_getElem hil
      rw [hL] at hk
      cases hk
      exact room_evict h (by omega) hi (s := L[i].1) (x := L[i].2) hL F.key F.n (F.tag _ (List.getElem_mem hil)) F.noff (Nat.le_trans F.un (by omega)) (Nat.le_trans F.len (by decide))

theorem size5' : (Try.prog.info? 5).map (·.size) = some 1 := by kernel_rfl
/-- A slot that is new. -/
def zslot : List Value := Sl.cells ⟨0, 0, false, 0⟩
theorem zero67 : Try.t67.zero = some (.agg zslot.toArray) := by kernel_rfl
theorem zeroV67 (w : World) : (zeroValue 67).run Try.prog w = .ok (.agg zslot.toArray) w := by
  have e0 : Try.prog.info? 67 = some Try.t67 := by kernel_rfl
  simp [zeroValue, typeInfo, e0, zero67]

set_option maxRecDepth 100000 in
set_option maxHeartbeats 1600000 in
theorem load_ok (h : Both w S b bd room (keysI L) L k) (F : Fine N L k) (hN : N ≤ 1000000000) (hk : roomK room L k = some (L1, k1)) {s c : Nat} (hc : k1.now[s]? = some c) (hs : ∀ p ∈ L1, p.1 ≠ s) :
    Calls Try.prog 25 #[.pointer (some ⟨b, 0, none⟩), .int .i64 (s : Int)] w fun e w' => e = .returned (.int .i64 0) ∧ BTurned S w w' b bd room (keysI L1) (L1 ++ [(s, ⟨c, 0, false, 0⟩)]) k1 := by
  have H := Lib.hid h
  have HF := Lib.hid F
  have Hk := Lib.hid hk
  have HF1 := Lib.hid (roomK_fine F hk)
  have HN := Lib.hid hN
  have Hc := Lib.hid hc
  have Hs := Lib.hid hs
  clear h F hk hc hs hN
  go_enter Try.func25, Try.ntmps25
  go_wp2_with fail
  refine (room_some H.out HF.out HN.out Hk.out).mono ?_
  rintro e W ⟨rfl, hK, S1, ⟨Sc, Sd, rfl, ⟨bm, vo, E, rfl, hm, hLE⟩, hd⟩, hS1⟩
  have c0 := hm.c0
  have M := Lib.hid hm
  have D := Lib.hid hd
  have HLE := Lib.hid hLE
  have HK := Lib.hid hK
  have HS1 := Lib.hid hS1
  clear hm hd hLE hK hS1
  go_wp2_with fail
  refine (read_any W Sd bd k1 D.out s c (same c) (.int .u16 (c : Int)) Hc.out rfl (same_length c) (same_one c) HF1.out.on).mono ?_
  rintro e W2 ⟨rfl, hB, hb⟩
  obtain ⟨g1, hg1⟩ : ∃ g1, g1 = W.heap.size := ⟨_, rfl⟩
  rw [← hg1] at hB ⊢
  have M2 := Lib.hid (M.out.keep (w' := W2) fun i hi => hb.block i (M.out.lt hi))
  have HB := Lib.hid hB
  have Hb := Lib.hid hb
  have Hg1 := Lib.hid hg1
  have c2 := M2.out.c2
  obtain ⟨Z, hZ⟩ : ∃ Z : Array Value, Z = zslot.toArray := ⟨_, rfl⟩
  have hz := zeroV67
  rw [← hZ] at hz
  have HZ := Lib.hid hZ
  clear hB hb hg1 hZ c0
  have hnew : (W2.alloc (.cells Z 67)).heap[W2.heap.size]? = some (.cells zslot.toArray 67 (0, 0)) := by rw [HZ.out]; exact Bk.new W2 67 zslot
  have hsrc : ∀ j v, (same c)[j]? = some v → (W2.alloc (.cells Z 67)).cell? ((⟨g1, 0, none⟩ : Addr).add j) = some v := fun j v hj => by
    rw [Addr.add_lit, Nat.zero_add, ((HB.out.below ((Below.refl _ W2).alloc (Nat.le_refl _) _) HB.out.lt).cell j)]
    exact hj
  have Hnew := Lib.hid hnew
  have Hsz : Hid (E.length < maxLen) := by
    have := HF1.out.len
    rw [HLE.out, List.length_map] at this
    unfold Hid maxLen; omega
  have HI : Hid (I64 (s : Int)) := I64_nat (by
    have h1 := (List.getElem?_eq_some_iff.1 Hc.out).1
    have h2 := HF1.out.n
    unfold Dk.now at h1
    rw [length_puts] at h1
    omega)
  have Hsrc := Lib.hid hsrc
  clear hnew hsrc
  go_wp2_with (first | (at_mapUpdate; refine wpList_mput (β := Option Nat) (R := ptrR) (enc := ptrV) (dat := ptrD) (z := none) rfl (.tmp 37) (.tmp 38) (.tmp 39) rfl ptrE Try.underlying60 rfl M3.out.map Hsz.out (s := (s : Int)) HI.out rfl (x := some W2.heap.size) trivial rfl ?_; intro W4 hM4 hG4) | (refine wpList_copy_splice rfl (.tmp 31) (.tmp 32) 33 33 rfl 5 Try.underlying33 size5' _ _ 64 64 64 64 rfl rfl W2.heap.size 0 zslot 67 Hnew.out (same c) (by rw [same_length]; rfl) (fun _ => ⟨rfl, _, rfl, Hsrc.out⟩) (by rw [same_length]; decide) (same_one c) W2.heap.size W2 ((Below.refl _ W2).alloc (Nat.le_refl _) _) (Nat.le_refl _) ?_; intro W3 hB3 hb3; have M3 := Lib.hid (M2.out.keep (w' := W3) fun i hi => hb3.block i (M2.out.lt hi)); have c23 := M3.out.c2; have Hb3 := Lib.hid hb3; clear hb3))
  go_ret
  refine ⟨rfl, ?_⟩
  have hno : hasKey (E.map En.sg) (s : Int) = false := by
    cases hk : hasKey (E.map En.sg) (s : Int)
    · rfl
    · obtain ⟨p, hp, hps⟩ := hasKey_iff.1 hk
      obtain ⟨e, he, rfl⟩ := List.mem_map.1 hp
      have := Hs.out e.sx (by rw [HLE.out]; exact List.mem_map.2 ⟨e, he, rfl⟩)
      exact absurd (show e.s = s by simp only [En.sg] at hps; omega) this
  have hsp : splice zslot 0 (same c) = Sl.cells ⟨c, 0, false, 0⟩ := by
    rw [put_splice]
    unfold put zslot Sl.cells
    rw [same_length, List.take_zero, List.nil_append, List.drop_left' (by rw [same_length])]
  have hBn : Bk W3 W2.heap.size 67 (Sl.cells ⟨c, 0, false, 0⟩) := by
    have := hB3.out
    rw [hsp] at this
    exact this
  have m4 := M2.out.more hno (x := ⟨c, 0, false, 0⟩) (Nat.le_refl _) Hb3.out hBn hG4 hM4
  have hWW : Below W.heap.size W W3 := Hb.out.trans (Hb3.out.mono Hb.out.size)
  have hfin : BTurned (fun j => cfoot b bm vo (E.map (·.g)) j ∨ Sd j) W W4 b bd room (keysI L1) (L1 ++ [(s, ⟨c, 0, false, 0⟩)]) k1 := by
    refine BTurned.cache (Sc' := cfoot b bm vo ((E ++ [(⟨s, W2.heap.size, ⟨c, 0, false, 0⟩⟩ : En)]).map En.g)) ⟨bm, vo, E, rfl, M.out, HLE.out⟩ D.out ?_ ⟨bm, vo, _, rfl, m4, by rw [HLE.out]; simp [En.sx]⟩ fun j hj => ?_
    · exact (Kept.of_below hWW).trans (Kept.of_grown (S := cfoot b bm vo (E.map (·.g))) hG4 fun j hj => .inr (.inl (by injection hj with hj; exact hj.symm))) fun j hj => .inl hj
    · rcases hj with h | h | h | h
      · exact .inl (.inl h)
      · exact .inl (.inr (.inl h))
      · exact .inl (.inr (.inr (.inl h)))
      · rw [List.map_append, List.mem_append] at h
        rcases h with h | h
        · exact .inl (.inr (.inr (.inr h)))
        · obtain rfl : j = W2.heap.size := by simpa using h
          exact .inr Hb.out.size
  exact BTurned.trans HK.out HS1.out hfin

set_option maxRecDepth 100000 in
theorem load_none (h : Both w S b bd room (keysI L) L k) (F : Fine N L k) (hk : roomK room L k = none) (s : Int) :
    Calls Try.prog 25 #[.pointer (some ⟨b, 0, none⟩), .int .i64 s] w fun e w' => e = .returned (.int .i64 5) ∧ BTurned S w w' b bd room (keysI L) L k := by
  have H := Lib.hid h
  have HF := Lib.hid F
  have Hk := Lib.hid hk
  clear h F hk
  go_enter Try.func25, Try.ntmps25
  go_wp2_with fail
  refine (room_none H.out HF.out Hk.out).mono ?_
  rintro e W ⟨rfl, hT⟩
  have T := Lib.hid hT
  clear hT
  go_wp2
  go_ret
  exact ⟨rfl, T.out⟩
end
end Go.Proofs.Ytnmfpgeojggjbaa
