/-
  Statement DiskSafe: what was safe, and not written since, is there, whatever happens. No condition.
-/
import Derived.Test.YtnebenkodpnofaaO
namespace Go.Proofs.Ytnebenkodpnofaa
open Go.RowKit Go.ChangeShapes Go.WideShapes Go.ChangeAt
attribute [local go_sem ↓] Go.wp_at_zero Go.wp_at_succ

/-- A disk of ten sectors behind some writes, with the power on. -/
structure First (j : Nat) (k : Dk Nat) : Prop where
  len : k.safe.length = 10
  un : k.un.length ≤ j
  dead : k.dead = false
  cut : k.cut = false
theorem First.start : First 0 (Dk.fresh 10 0) := ⟨List.length_replicate, Nat.le_refl _, rfl, rfl⟩
theorem First.off {j : Nat} {k : Dk Nat} (h : First j k) : k.off = false := by simp [Dk.off, h.dead, h.cut]
theorem First.op {j : Nat} {k : Dk Nat} (h : First j k) : k.op.dead = false ∧ k.op.cut = false := by
  unfold Dk.op
  rw [h.off, if_neg (by decide)]
  exact ⟨h.dead, h.cut⟩
theorem First.write {j : Nat} {k : Dk Nat} (h : First j k) (s : Int) (c : Nat) : First (j + 1) (k.write s c).2 := by
  unfold Dk.write
  split
  · rw [h.off, if_neg (by decide)]
    refine ⟨by simp [Dk.wrote, Dk.op_safe, h.len], by have := h.un; simp [Dk.wrote]; omega, h.op.1, h.op.2⟩
  · exact ⟨h.len, by have := h.un; show k.un.length ≤ _; omega, h.dead, h.cut⟩

/-- That sector is safe, and has that number. -/
structure Held (m x j : Nat) (k : Dk Nat) : Prop where
  len : k.safe.length = 10
  un : k.un.length ≤ j
  safe : k.safe[m]? = some x
  not : ∀ p ∈ k.un, p.1 ≠ m
theorem Held.now {m x j : Nat} {k : Dk Nat} (h : Held m x j k) : k.now[m]? = some x := (puts_get h.not).trans h.safe
theorem Held.op {m x j : Nat} {k : Dk Nat} (h : Held m x j k) : Held m x (j + 1) k.op :=
  ⟨by rw [Dk.op_safe]; exact h.len, by rw [Dk.op_un]; have := h.un; omega, by rw [Dk.op_safe]; exact h.safe, by rw [Dk.op_un]; exact h.not⟩
theorem Held.write {m x j : Nat} {k : Dk Nat} (h : Held m x j k) (s : Int) (hs : s ≠ (m : Int)) (c : Nat) : Held m x (j + 1) (k.write s c).2 := by
  unfold Dk.write
  split
  · rename_i hh
    have hs0 : 0 ≤ s := by simp [Dk.has] at hh; exact hh.1
    split
    · exact h.op
    · refine ⟨by simp [Dk.wrote, Dk.op_safe, h.len], by have := h.un; simp [Dk.wrote]; omega, by simp [Dk.wrote, Dk.op_safe, h.safe], fun p hp => ?_⟩
      simp only [Dk.wrote, List.mem_append, List.mem_singleton] at hp
      rcases hp with hp | rfl
      · exact h.not p hp
      · show s.toNat ≠ m
        omega
  · exact ⟨h.len, by have := h.un; show k.un.length ≤ _; omega, h.safe, h.not⟩
theorem Held.flush {m x j : Nat} {k : Dk Nat} (h : Held m x j k) : Held m x (j + 1) k.flush := by
  unfold Dk.flush
  split
  · exact h.op
  · exact ⟨by simp [Dk.now, length_puts, h.len], Nat.zero_le _, h.now, fun p hp => by cases hp⟩
theorem Held.cutAt {m x j : Nat} {k : Dk Nat} (h : Held m x j k) (a : Int) : Held m x (j + 1) (k.cutAt a) := by
  have := h.un
  unfold Dk.cutAt
  split
  · exact ⟨h.len, by omega, h.safe, h.not⟩
  · exact ⟨h.len, by show k.un.length ≤ _; omega, h.safe, h.not⟩
theorem Held.crash {m x j : Nat} {k : Dk Nat} (h : Held m x j k) (t : Nat) : Held m x (j + 1) (k.crash t) := by
  refine ⟨?_, Nat.zero_le _, ?_, fun p hp => by cases hp⟩
  · show (puts k.safe _).length = 10
    rw [length_puts, h.len]
  · show (puts k.safe (kept t 0 k.un))[m]? = some x
    rw [puts_get fun p hp => h.not p (kept_mem p hp)]
    exact h.safe
theorem First.held {j m : Nat} {k : Dk Nat} (h : First j k) (hm : m < 10) (x : Nat) : (k.write (m : Int) x).1 = 0 ∧ (k.write (m : Int) x).2.off = false ∧ Held m x 0 (k.write (m : Int) x).2.flush := by
  have hw := h.write (m : Int) x
  have hh : k.has (m : Int) = true := by simp [Dk.has, h.len]; omega
  have e : k.write (m : Int) x = (0, k.wrote m x) := by
    unfold Dk.write
    rw [hh, if_pos rfl, h.off, if_neg (by decide)]
    rfl
  refine ⟨by rw [e], hw.off, ?_⟩
  have hoff := hw.off
  rw [e] at hoff ⊢
  unfold Dk.flush
  rw [hoff, if_neg (by decide)]
  refine ⟨by simp [Dk.now, length_puts, Dk.wrote, Dk.op_safe, h.len], Nat.zero_le _, ?_, fun p hp => by cases hp⟩
  show (k.wrote m x).now[m]? = some x
  have e2 : (k.wrote m x).now = k.now.set m x := by simp only [Dk.now, Dk.wrote, puts_append, Dk.op_safe, puts_cons, puts_nil]
  rw [e2, List.getElem?_set_self (by simp [Dk.now, length_puts, h.len]; exact hm)]

set_option maxRecDepth 100000 in
set_option maxHeartbeats 1600000 in
theorem safe_walk (l0 l1 : List Act) (A0 A1 : Option Addr) (n0 n1 c0' c1' sectors : Nat) (w : World) (hn0 : l0.length = n0) (hc0 : n0 ≤ c0') (hm0 : c0' ≤ 9223372036854775807) (hr0 : Acts w w.heap.size A0 l0)
    (hn1 : l1.length = n1) (hc1 : n1 ≤ c1') (hm1 : c1' ≤ 9223372036854775807) (hr1 : Acts w w.heap.size A1 l1) (hsec : sectors < 256) :
    Calls Try.prog 3 #[.slice A0 n0 c0', .slice A1 n1 c1', .int .u8 (sectors : Int)] w fun e w' => e = .returned (.bool true) ∧ Below w.heap.size w w' := by
  have R0 := Lib.hid hr0
  have R1 := Lib.hid hr1
  have Hn0 := Lib.hid hn0
  have Hn1 := Lib.hid hn1
  obtain ⟨m, hm, hm10⟩ : ∃ m : Nat, (sectors : Int) % 10 = (m : Int) ∧ m < 10 := ⟨sectors % 10, by omega, by omega⟩
  clear hr0 hr1 hn0 hn1
  go_enter Try.func3, Try.ntmps3
  go_wp2_with fail
  refine (shown_any _).mono ?_
  rintro e w1 ⟨rfl, hb⟩
  have L1 := Lib.hid hb
  clear hb
  go_wp2_with fail
  refine (new_any (f := sec) _ 10 (by decide) 0 sec_zero).mono ?_
  rintro e w2 ⟨b, S, rfl, hb, hD, hS⟩
  have M0 : Hid (Mine w.heap.size w2 b (Dk.fresh 10 0) S) := ⟨hD, fun i hi => Nat.le_trans L1.out.size (hS i hi)⟩
  have L2 := Lib.hid (L1.out.trans (hb.mono L1.out.size))
  clear hb hD hS L1
  go_wp2_with fail
  refine (few_any l0 A0 n0 c0' _ Hn0.out hc0 hm0 ((R0.out.below L2.out).more L2.out.size)).mono ?_
  rintro e w3 ⟨q0, rfl, hq0, hq1, rfl⟩
  go_wp2
  go_loopw [36] (fun i wr => ∃ (j : Nat) (k : Dk Nat) (S' : Nat → Prop), j ≤ q0 ∧ i = .int .i64 (j : Int) ∧ Mine w.heap.size wr b k S' ∧ Below w.heap.size w wr ∧ First j k) (fun i _ => q0 - (intOf i).toNat)
  case atStart => exact ⟨0, _, S, Nat.zero_le _, rfl, M0.out, L2.out, First.start⟩
  case round =>
    clear M0 L2
    obtain ⟨j, k, S', hj, rfl, hM, hL, hC⟩ := hrel
    have M := Lib.hid hM
    have L := Lib.hid hL
    have C := Lib.hid hC
    clear hM hL hC
    by_cases hlt : j < q0
    · have hun : Hid (k.un.length ≤ 1073741824) := by have := C.out.un; unfold Hid; omega
      obtain ⟨ab, ao, a, rfl, hab, ha, hg, c0, c1, c2, c3, c4, c5⟩ := (R0.out.below L.out).at (i := j) (by rw [Hn0.out]; omega)
      have Hg := Lib.hid hg
      clear ha hg hab
      go_wp2_with fail
      refine (patch_any _ a.c Hg.out.c _).mono ?_
      rintro e u ⟨g, rfl, hg, hB, hb⟩
      have hM := M.out.below (((Below.refl _ wr).alloc (Nat.le_refl _) _).trans (hb.mono (by simp)))
      have D := Lib.hid hM
      have N := Lib.hid ((M.out.below ((Below.refl _ wr).alloc (Nat.le_refl _) _)).new hg)
      have HB := Lib.hid hB
      have L1 := Lib.hid ((L.out.alloc L.out.size _).trans (hb.mono (by have := L.out.size; simp; omega)))
      clear hM hg hB hb
      go_wp2_with fail
      refine (write_same _ _ _ k D.out.1 a.at_ a.c g HB.out N.out hun.out).mono ?_
      rintro e v ⟨rfl, ht⟩
      obtain ⟨⟨S2, hM2⟩, hb⟩ := D.out.turn ht L1.out.size
      have M2 := Lib.hid hM2
      have L2 := Lib.hid (L1.out.trans hb)
      clear ht hM2 hb M L D
      go_wp2
      go_roundw
      case rel => exact ⟨j + 1, _, S2, by omega, by go_num, M2.out, L2.out, C.out.write _ _⟩
      case measure => simp [intOf]; omega
    · obtain rfl : j = q0 := by omega
      have hun : Hid (k.un.length ≤ 1073741824) := by have := C.out.un; unfold Hid; omega
      obtain ⟨hk1, hk2, hk3⟩ := C.out.held hm10 77
      have K1 := Lib.hid hk1
      have K2 := Lib.hid hk2
      have K3 := Lib.hid hk3
      clear hk1 hk2 hk3
      go_wp2_with fail
      refine (patch_int (m : Int) 77 77 rfl (by decide) _).mono ?_
      rintro e u ⟨g, rfl, hg, hB, hb⟩
      have D := Lib.hid (M.out.below hb)
      have N := Lib.hid (M.out.new hg)
      have HB := Lib.hid hB
      have L1 := Lib.hid (L.out.trans (hb.mono L.out.size))
      clear hg hB hb
      go_wp2_with fail
      refine (write_same _ _ _ k D.out.1 (m : Int) 77 g HB.out N.out hun.out).mono ?_
      rintro e v ⟨rfl, ht⟩
      rw [K1.out]
      obtain ⟨⟨S2, hM2⟩, hb⟩ := D.out.turn ht L1.out.size
      have M2 := Lib.hid hM2
      have L2 := Lib.hid (L1.out.trans hb)
      have hu2 : Hid ((k.write (m : Int) 77).2.un.length ≤ 1073741824) := by
        have := (C.out.write (m : Int) 77).un
        unfold Hid
        omega
      clear ht hM2 hb M L D
      go_wp2_with fail
      refine (flush_any sec_enc _ _ _ _ M2.out.1 hu2.out).mono ?_
      rintro e v2 ⟨rfl, ht⟩
      rw [K2.out]
      obtain ⟨⟨S3, hM3⟩, hb⟩ := M2.out.turn ht L2.out.size
      have M3 := Lib.hid hM3
      have L3 := Lib.hid (L2.out.trans hb)
      clear ht hM3 hb M2 L2 L1 hun hu2
      generalize (k.write (m : Int) 77).2.flush = kf at *
      clear K1 K2 C
      go_wp2_with fail
      refine (few_any l1 A1 n1 c1' _ Hn1.out hc1 hm1 ((R1.out.below L3.out).more L3.out.size)).mono ?_
      rintro e w3 ⟨q1, rfl, hq2, hq3, rfl⟩
      clear R0 Hn0
      go_wp2
      go_loopw [61] (fun i wr => ∃ (j : Nat) (k : Dk Nat) (S' : Nat → Prop), j ≤ q1 ∧ i = .int .i64 (j : Int) ∧ Mine w.heap.size wr b k S' ∧ Below w.heap.size w wr ∧ Held m 77 j k) (fun i _ => q1 - (intOf i).toNat)
      case atStart => exact ⟨0, _, S3, Nat.zero_le _, rfl, M3.out, L3.out, K3.out⟩
      case round =>
        clear M3 L3 K3
        obtain ⟨j, k, S', hj, rfl, hM, hL, hC⟩ := hrel
        have M := Lib.hid hM
        have L := Lib.hid hL
        have C := Lib.hid hC
        clear hM hL hC
        by_cases hlt : j < q1
        · have hun : Hid (k.un.length ≤ 1073741824) := by have := C.out.un; unfold Hid; omega
          obtain ⟨ab, ao, a, rfl, hab, ha, hg, c0, c1, c2, c3, c4, c5⟩ := (R1.out.below L.out).at (i := j) (by rw [Hn1.out]; omega)
          have Hg := Lib.hid hg
          clear ha hg hab
          have hk5 : (a.kind : Int) % 5 = 0 ∨ (a.kind : Int) % 5 = 1 ∨ (a.kind : Int) % 5 = 2 ∨ (a.kind : Int) % 5 = 3 ∨ (a.kind : Int) % 5 = 4 := by omega
          rcases hk5 with hk | hk | hk | hk | hk
          · by_cases hat : a.at_ = (m : Int)
            · rw [hat] at c1
              go_wp2
              go_roundw
              case rel => exact ⟨j + 1, k, S', by omega, by go_num, M.out.below ((Below.refl _ wr).alloc (Nat.le_refl _) _), L.out.alloc L.out.size _, ⟨C.out.len, by have := C.out.un; omega, C.out.safe, C.out.not⟩⟩
              case measure => simp [intOf]; omega
            · have Hat := Lib.hid hat
              go_wp2_with fail
              refine (patch_any _ a.c Hg.out.c _).mono ?_
              rintro e u ⟨g, rfl, hg, hB, hb⟩
              have hM := M.out.below (((Below.refl _ wr).alloc (Nat.le_refl _) _).trans (hb.mono (by simp)))
              have D := Lib.hid hM
              have N := Lib.hid ((M.out.below ((Below.refl _ wr).alloc (Nat.le_refl _) _)).new hg)
              have HB := Lib.hid hB
              have L1 := Lib.hid ((L.out.alloc L.out.size _).trans (hb.mono (by have := L.out.size; simp; omega)))
              clear hM hg hB hb
              go_wp2_with fail
              refine (write_same _ _ _ k D.out.1 a.at_ a.c g HB.out N.out hun.out).mono ?_
              rintro e v ⟨rfl, ht⟩
              obtain ⟨⟨S2, hM2⟩, hb⟩ := D.out.turn ht L1.out.size
              have M2 := Lib.hid hM2
              have L2 := Lib.hid (L1.out.trans hb)
              clear ht hM2 hb M L D
              go_wp2
              go_roundw
              case rel => exact ⟨j + 1, _, S2, by omega, by go_num, M2.out, L2.out, C.out.write _ Hat.out _⟩
              case measure => simp [intOf]; omega
          · by_cases hat : a.at_ = (m : Int)
            · rw [hat] at c1
              go_wp2
              go_roundw
              case rel => exact ⟨j + 1, k, S', by omega, by go_num, M.out.below ((Below.refl _ wr).alloc (Nat.le_refl _) _), L.out.alloc L.out.size _, ⟨C.out.len, by have := C.out.un; omega, C.out.safe, C.out.not⟩⟩
              case measure => simp [intOf]; omega
            · have Hat := Lib.hid hat
              go_wp2_with fail
              refine (patch_any _ a.c Hg.out.c _).mono ?_
              rintro e u ⟨g, rfl, hg, hB, hb⟩
              have hM := M.out.below (((Below.refl _ wr).alloc (Nat.le_refl _) _).trans (hb.mono (by simp)))
              have D := Lib.hid hM
              have N := Lib.hid ((M.out.below ((Below.refl _ wr).alloc (Nat.le_refl _) _)).new hg)
              have HB := Lib.hid hB
              have L1 := Lib.hid ((L.out.alloc L.out.size _).trans (hb.mono (by have := L.out.size; simp; omega)))
              clear hM hg hB hb
              go_wp2_with fail
              refine (write_same _ _ _ k D.out.1 a.at_ a.c g HB.out N.out hun.out).mono ?_
              rintro e v ⟨rfl, ht⟩
              obtain ⟨⟨S2, hM2⟩, hb⟩ := D.out.turn ht L1.out.size
              have M2 := Lib.hid hM2
              have L2 := Lib.hid (L1.out.trans hb)
              clear ht hM2 hb M L D
              go_wp2
              go_roundw
              case rel => exact ⟨j + 1, _, S2, by omega, by go_num, M2.out, L2.out, C.out.write _ Hat.out _⟩
              case measure => simp [intOf]; omega
          · go_wp2_with fail
            refine (flush_any sec_enc _ _ _ k (M.out.below ((Below.refl _ wr).alloc (Nat.le_refl _) _)).1 hun.out).mono ?_
            rintro e v ⟨rfl, ht⟩
            obtain ⟨⟨S2, hM2⟩, hb⟩ := (M.out.below ((Below.refl _ wr).alloc (Nat.le_refl _) _)).turn ht (by have := L.out.size; simp; omega)
            have M2 := Lib.hid hM2
            have L2 := Lib.hid ((L.out.alloc L.out.size _).trans hb)
            clear ht hM2 hb M L
            go_wp2
            go_roundw
            case rel => exact ⟨j + 1, _, S2, by omega, by go_num, M2.out, L2.out, C.out.flush⟩
            case measure => simp [intOf]; omega
          · go_wp2_with fail
            refine (cut_any _ _ _ k (M.out.below ((Below.refl _ wr).alloc (Nat.le_refl _) _)).1 a.at_).mono ?_
            rintro e v ⟨rfl, ht⟩
            obtain ⟨⟨S2, hM2⟩, hb⟩ := (M.out.below ((Below.refl _ wr).alloc (Nat.le_refl _) _)).turn ht (by have := L.out.size; simp; omega)
            have M2 := Lib.hid hM2
            have L2 := Lib.hid ((L.out.alloc L.out.size _).trans hb)
            clear ht hM2 hb M L
            go_wp2
            go_roundw
            case rel => exact ⟨j + 1, _, S2, by omega, by go_num, M2.out, L2.out, C.out.cutAt _⟩
            case measure => simp [intOf]; omega
          · go_wp2_with fail
            refine (crash_any sec_enc _ _ _ k (M.out.below ((Below.refl _ wr).alloc (Nat.le_refl _) _)).1 hun.out a.there Hg.out.there).mono ?_
            rintro e v ⟨rfl, ht⟩
            obtain ⟨⟨S2, hM2⟩, hb⟩ := (M.out.below ((Below.refl _ wr).alloc (Nat.le_refl _) _)).turn ht (by have := L.out.size; simp; omega)
            have M2 := Lib.hid hM2
            have L2 := Lib.hid ((L.out.alloc L.out.size _).trans hb)
            clear ht hM2 hb M L
            go_wp2
            go_roundw
            case rel => exact ⟨j + 1, _, S2, by omega, by go_num, M2.out, L2.out, C.out.crash _⟩
            case measure => simp [intOf]; omega
        · obtain rfl : j = q1 := by omega
          clear hj hlt
          have hun : Hid (k.un.length ≤ 1073741824) := by have := C.out.un; unfold Hid; omega
          go_wp2_with fail
          refine (crash_any sec_enc _ _ _ k M.out.1 hun.out 0 (by decide)).mono ?_
          rintro e v ⟨rfl, ht⟩
          obtain ⟨⟨S2, hM2⟩, hb⟩ := M.out.turn ht L.out.size
          have M2 := Lib.hid hM2
          have L2 := Lib.hid (L.out.trans hb)
          have H2 := Lib.hid (C.out.crash 0)
          have hd2 : Hid ((k.crash 0).dead = false) := rfl
          clear ht hM2 hb M L C hun
          generalize k.crash 0 = kc at *
          go_wp2_with fail
          refine (read_any _ _ _ kc M2.out.1 m 77 (same 77) (.int .u16 77) H2.out.now rfl (same_length 77) (same_one 77) hd2.out).mono ?_
          rintro e x1 ⟨rfl, hB, hb⟩
          have M3 := Lib.hid (M2.out.below hb)
          obtain ⟨gr, hgr⟩ : ∃ gr, gr = v.heap.size := ⟨_, rfl⟩
          rw [← hgr] at hB ⊢
          have RA := Lib.hid hB
          have L3 := Lib.hid (L2.out.trans (hb.mono L2.out.size))
          clear hB hb hgr M2 L2
          go_wp2_with fail
          refine (tag_any _ _ _ kc M3.out.1 m 77 (same 77) (.int .u16 77) H2.out.now rfl (same_length 77) hd2.out).mono ?_
          rintro e x2 ⟨rfl, rfl⟩
          clear M3 H2 hd2
          go_wp2
          refine wp_region_held_drew (S := fun w' => Bk w' gr 61 (same 77) ∧ Below w.heap.size w w') (by kernel_rfl) ⟨RA.out, L3.out.drew⟩ (fun hHeld => ?_)
          refine wpAnyH_take (i := 0) (oi := _) (v := ?_) (by simp only [List.getElem?_toArray, List.getElem?_cons_zero]; rfl) (by kernel_rfl) (by kernel_rfl) (by kernel_rfl) (by exact fun _ _ _ h => h) (Or.inl ⟨by rfl, ?hya0⟩) (by assumption) ?rea0
          case hya0 => (rintro w ⟨hA1, hA2⟩; have e1 := conv_any hA1 (by decide); clear hA1 hA2; go_simp <;> with_reducible rfl)
          try simp only [Act.put, List.setIfInBounds_toArray, List.set_cons_zero, List.set_cons_succ]
          refine wpAnyH_take (i := 1) (oi := _) (v := ?_) (by simp only [List.getElem?_toArray, List.getElem?_cons_succ, List.getElem?_cons_zero]; rfl) (by kernel_rfl) (by kernel_rfl) (by kernel_rfl) (by exact fun _ _ _ h => h) (Or.inl ⟨by rfl, ?hya1⟩) (by assumption) ?rea1
          case hya1 => (rintro w ⟨hA1, hA2⟩; have e1 := conv_any hA1 (by decide); clear hA1 hA2; go_simp <;> with_reducible rfl)
          try simp only [Act.put, List.setIfInBounds_toArray, List.set_cons_zero, List.set_cons_succ]
          refine wpAnyH_take (i := 2) (oi := _) (v := ?_) (by simp only [List.getElem?_toArray, List.getElem?_cons_succ, List.getElem?_cons_zero]; rfl) (by kernel_rfl) (by kernel_rfl) (by kernel_rfl) (by exact fun _ _ _ h => h) (Or.inl ⟨by rfl, ?hya2⟩) (by assumption) ?rea2
          case hya2 => (rintro w ⟨hA1, hA2⟩; have e1 := conv_any hA1 (by decide); clear hA1 hA2; go_simp <;> with_reducible rfl)
          try simp only [Act.put, List.setIfInBounds_toArray, List.set_cons_zero, List.set_cons_succ]
          refine wpAnyH_take (i := 3) (oi := _) (v := ?_) (by simp only [List.getElem?_toArray, List.getElem?_cons_succ, List.getElem?_cons_zero]; rfl) (by kernel_rfl) (by kernel_rfl) (by kernel_rfl) (by exact fun _ _ _ h => h) (Or.inl ⟨by rfl, ?hya3⟩) (by assumption) ?rea3
          case hya3 => (rintro w ⟨hA1, hA2⟩; have e1 := conv_any hA1 (by decide); clear hA1 hA2; go_simp <;> with_reducible rfl)
          try simp only [Act.put, List.setIfInBounds_toArray, List.set_cons_zero, List.set_cons_succ]
          refine wpAnyH_take (i := 4) (oi := _) (v := ?_) (by simp only [List.getElem?_toArray, List.getElem?_cons_succ, List.getElem?_cons_zero]; rfl) (by kernel_rfl) (by kernel_rfl) (by kernel_rfl) (by exact fun _ _ _ h => h) (Or.inl ⟨by rfl, ?hya4⟩) (by assumption) ?rea4
          case hya4 => (rintro w ⟨hA1, hA2⟩; have e1 := conv_any hA1 (by decide); clear hA1 hA2; go_simp <;> with_reducible rfl)
          try simp only [Act.put, List.setIfInBounds_toArray, List.set_cons_zero, List.set_cons_succ]
          refine wpAnyH_take (i := 5) (oi := _) (v := ?_) (by simp only [List.getElem?_toArray, List.getElem?_cons_succ, List.getElem?_cons_zero]; rfl) (by kernel_rfl) (by kernel_rfl) (by kernel_rfl) (by exact fun _ _ _ h => h) (Or.inl ⟨by rfl, ?hya5⟩) (by assumption) ?rea5
          case hya5 => (rintro w ⟨hA1, hA2⟩; have e1 := conv_any hA1 (by decide); clear hA1 hA2; go_simp <;> with_reducible rfl)
          try simp only [Act.put, List.setIfInBounds_toArray, List.set_cons_zero, List.set_cons_succ]
          refine wpAnyH_take (i := 6) (oi := _) (v := ?_) (by simp only [List.getElem?_toArray, List.getElem?_cons_succ, List.getElem?_cons_zero]; rfl) (by kernel_rfl) (by kernel_rfl) (by kernel_rfl) (by exact fun _ _ _ h => h) (Or.inl ⟨by rfl, ?hya6⟩) (by assumption) ?rea6
          case hya6 => (rintro w ⟨hA1, hA2⟩; have e1 := conv_any hA1 (by decide); clear hA1 hA2; go_simp <;> with_reducible rfl)
          try simp only [Act.put, List.setIfInBounds_toArray, List.set_cons_zero, List.set_cons_succ]
          refine wpAnyH_take (i := 7) (oi := _) (v := ?_) (by simp only [List.getElem?_toArray, List.getElem?_cons_succ, List.getElem?_cons_zero]; rfl) (by kernel_rfl) (by kernel_rfl) (by kernel_rfl) (by exact fun _ _ _ h => h) (Or.inl ⟨by rfl, ?hya7⟩) (by assumption) ?rea7
          case hya7 => (rintro w ⟨hA1, hA2⟩; have e1 := conv_any hA1 (by decide); clear hA1 hA2; go_simp <;> with_reducible rfl)
          try simp only [Act.put, List.setIfInBounds_toArray, List.set_cons_zero, List.set_cons_succ]
          refine wpAnyH_take (i := 8) (oi := _) (v := ?_) (by simp only [List.getElem?_toArray, List.getElem?_cons_succ, List.getElem?_cons_zero]; rfl) (by kernel_rfl) (by kernel_rfl) (by kernel_rfl) (by exact fun _ _ _ h => h) (Or.inl ⟨by rfl, ?hya8⟩) (by assumption) ?rea8
          case hya8 => (rintro w ⟨hA1, hA2⟩; have e1 := conv_any hA1 (by decide); clear hA1 hA2; go_simp <;> with_reducible rfl)
          try simp only [Act.put, List.setIfInBounds_toArray, List.set_cons_zero, List.set_cons_succ]
          refine wpAnyH_take (i := 9) (oi := _) (v := ?_) (by simp only [List.getElem?_toArray, List.getElem?_cons_succ, List.getElem?_cons_zero]; rfl) (by kernel_rfl) (by kernel_rfl) (by kernel_rfl) (by exact fun _ _ _ h => h) (Or.inl ⟨by rfl, ?hya9⟩) (by assumption) ?rea9
          case hya9 => (rintro w ⟨hA1, hA2⟩; have e1 := conv_any hA1 (by decide); clear hA1 hA2; go_simp <;> with_reducible rfl)
          try simp only [Act.put, List.setIfInBounds_toArray, List.set_cons_zero, List.set_cons_succ]
          refine wpAnyH_take (i := 10) (oi := _) (v := ?_) (by simp only [List.getElem?_toArray, List.getElem?_cons_succ, List.getElem?_cons_zero]; rfl) (by kernel_rfl) (by kernel_rfl) (by kernel_rfl) (by exact fun _ _ _ h => h) (Or.inl ⟨by rfl, ?hya10⟩) (by assumption) ?rea10
          case hya10 => (rintro w ⟨hA1, hA2⟩; have e1 := conv_any hA1 (by decide); clear hA1 hA2; go_simp <;> with_reducible rfl)
          try simp only [Act.put, List.setIfInBounds_toArray, List.set_cons_zero, List.set_cons_succ]
          refine wpAnyH_take (i := 11) (oi := _) (v := ?_) (by simp only [List.getElem?_toArray, List.getElem?_cons_succ, List.getElem?_cons_zero]; rfl) (by kernel_rfl) (by kernel_rfl) (by kernel_rfl) (by exact fun _ _ _ h => h) (Or.inl ⟨by rfl, ?hya11⟩) (by assumption) ?rea11
          case hya11 => (rintro w ⟨hA1, hA2⟩; have e1 := conv_any hA1 (by decide); clear hA1 hA2; go_simp <;> with_reducible rfl)
          try simp only [Act.put, List.setIfInBounds_toArray, List.set_cons_zero, List.set_cons_succ]
          refine wpAnyH_ready (rs := [12]) (by kernel_rfl) (by simp) ?_
          refine AllReadyH.cons (o := _) (by simp only [List.getElem?_toArray, List.getElem?_cons_succ, List.getElem?_cons_zero]; rfl) (fun K hK => ?_) AllReadyH.nil
          go_simp
          refine (sector_int 77 77 rfl _).mono ?_
          rintro e y1 ⟨rfl, hB, hb, hz⟩
          have HS1 : Hid ((fun w' : World => Bk w' gr 61 (same 77) ∧ Below w.heap.size w w') y1) := ⟨Bk.below (w := World.drew _) RA.out hb RA.out.lt, L3.out.drew.trans (hb.mono L3.out.size)⟩
          obtain ⟨gc, hgc⟩ : ∃ gc, gc = x1.drew.heap.size := ⟨_, rfl⟩
          rw [← hgc] at hB ⊢
          have RC := Lib.hid hB
          clear hB hb hz hgc
          go_simp
          refine hK.out _ _ HS1.out (fun hHeld2 => ?_)
          refine held_strong (T := fun u => Bk u gc 5 (same 77) ∧ (fun w' : World => Bk w' gr 61 (same 77) ∧ Below w.heap.size w w') u) (by rintro _ ⟨_, h⟩; exact h) _ _ _ _ ?_
          clear hK K hHeld hHeld2
          refine wpAnyH_take (i := 13) (oi := _) (v := ?_) (by simp only [List.getElem?_toArray, List.getElem?_cons_succ, List.getElem?_cons_zero]; rfl) (by kernel_rfl) (by kernel_rfl) (by kernel_rfl) (by exact fun _ _ _ h => h) (Or.inl ⟨by rfl, ?hyb13⟩) (⟨RC.out, HS1.out⟩) ?reb13
          case hyb13 => (rintro w ⟨hA0, hA1, hA2⟩; have e0 := conv_any hA0 (by decide); have e1 := conv_any hA1 (by decide); have e3 := strS_same 77; clear hA0 hA1 hA2; go_simp <;> with_reducible rfl)
          try simp only [Act.put, List.setIfInBounds_toArray, List.set_cons_zero, List.set_cons_succ]
          refine wpAnyH_take (i := 14) (oi := _) (v := ?_) (by simp only [List.getElem?_toArray, List.getElem?_cons_succ, List.getElem?_cons_zero]; rfl) (by kernel_rfl) (by kernel_rfl) (by kernel_rfl) (by exact fun _ _ _ h => h) (Or.inl ⟨by rfl, ?hyb14⟩) (⟨RC.out, HS1.out⟩) ?reb14
          case hyb14 => (rintro w ⟨hA0, hA1, hA2⟩; have e0 := conv_any hA0 (by decide); have e1 := conv_any hA1 (by decide); have e3 := strS_same 77; clear hA0 hA1 hA2; go_simp <;> with_reducible rfl)
          try simp only [Act.put, List.setIfInBounds_toArray, List.set_cons_zero, List.set_cons_succ]
          refine wpAnyH_take (i := 15) (oi := _) (v := ?_) (by simp only [List.getElem?_toArray, List.getElem?_cons_succ, List.getElem?_cons_zero]; rfl) (by kernel_rfl) (by kernel_rfl) (by kernel_rfl) (by exact fun _ _ _ h => h) (Or.inl ⟨by rfl, ?hyb15⟩) (⟨RC.out, HS1.out⟩) ?reb15
          case hyb15 => (rintro w ⟨hA0, hA1, hA2⟩; have e0 := conv_any hA0 (by decide); have e1 := conv_any hA1 (by decide); have e3 := strS_same 77; clear hA0 hA1 hA2; go_simp <;> with_reducible rfl)
          try simp only [Act.put, List.setIfInBounds_toArray, List.set_cons_zero, List.set_cons_succ]
          refine wpAnyH_take (i := 16) (oi := _) (v := ?_) (by simp only [List.getElem?_toArray, List.getElem?_cons_succ, List.getElem?_cons_zero]; rfl) (by kernel_rfl) (by kernel_rfl) (by kernel_rfl) (by exact fun _ _ _ h => h) (Or.inl ⟨by rfl, ?hyb16⟩) (⟨RC.out, HS1.out⟩) ?reb16
          case hyb16 => (rintro w ⟨hA0, hA1, hA2⟩; have e0 := conv_any hA0 (by decide); have e1 := conv_any hA1 (by decide); have e3 := strS_same 77; clear hA0 hA1 hA2; go_simp <;> with_reducible rfl)
          try simp only [Act.put, List.setIfInBounds_toArray, List.set_cons_zero, List.set_cons_succ]
          refine wpAnyH_take (i := 17) (oi := _) (v := ?_) (by simp only [List.getElem?_toArray, List.getElem?_cons_succ, List.getElem?_cons_zero]; rfl) (by kernel_rfl) (by kernel_rfl) (by kernel_rfl) (by exact fun _ _ _ h => h) (Or.inl ⟨by rfl, ?hyb17⟩) (⟨RC.out, HS1.out⟩) ?reb17
          case hyb17 => (rintro w ⟨hA0, hA1, hA2⟩; have e0 := conv_any hA0 (by decide); have e1 := conv_any hA1 (by decide); have e3 := strS_same 77; clear hA0 hA1 hA2; go_simp <;> with_reducible rfl)
          try simp only [Act.put, List.setIfInBounds_toArray, List.set_cons_zero, List.set_cons_succ]
          refine wpAnyH_take (i := 18) (oi := _) (v := ?_) (by simp only [List.getElem?_toArray, List.getElem?_cons_succ, List.getElem?_cons_zero]; rfl) (by kernel_rfl) (by kernel_rfl) (by kernel_rfl) (by exact fun _ _ _ h => h) (Or.inl ⟨by rfl, ?hyb18⟩) (⟨RC.out, HS1.out⟩) ?reb18
          case hyb18 => (rintro w ⟨hA0, hA1, hA2⟩; have e0 := conv_any hA0 (by decide); have e1 := conv_any hA1 (by decide); have e3 := strS_same 77; clear hA0 hA1 hA2; go_simp <;> with_reducible rfl)
          try simp only [Act.put, List.setIfInBounds_toArray, List.set_cons_zero, List.set_cons_succ]
          refine wpAnyH_take (i := 19) (oi := _) (v := ?_) (by simp only [List.getElem?_toArray, List.getElem?_cons_succ, List.getElem?_cons_zero]; rfl) (by kernel_rfl) (by kernel_rfl) (by kernel_rfl) (by exact fun _ _ _ h => h) (Or.inl ⟨by rfl, ?hyb19⟩) (⟨RC.out, HS1.out⟩) ?reb19
          case hyb19 => (rintro w ⟨hA0, hA1, hA2⟩; have e0 := conv_any hA0 (by decide); have e1 := conv_any hA1 (by decide); have e3 := strS_same 77; clear hA0 hA1 hA2; go_simp <;> with_reducible rfl)
          try simp only [Act.put, List.setIfInBounds_toArray, List.set_cons_zero, List.set_cons_succ]
          refine wpAnyH_take (i := 20) (oi := _) (v := ?_) (by simp only [List.getElem?_toArray, List.getElem?_cons_succ, List.getElem?_cons_zero]; rfl) (by kernel_rfl) (by kernel_rfl) (by kernel_rfl) (by exact fun _ _ _ h => h) (Or.inl ⟨by rfl, ?hyb20⟩) (⟨RC.out, HS1.out⟩) ?reb20
          case hyb20 => (rintro w ⟨hA0, hA1, hA2⟩; have e0 := conv_any hA0 (by decide); have e1 := conv_any hA1 (by decide); have e3 := strS_same 77; clear hA0 hA1 hA2; go_simp <;> with_reducible rfl)
          try simp only [Act.put, List.setIfInBounds_toArray, List.set_cons_zero, List.set_cons_succ]
          refine wpAnyH_done (by kernel_rfl) ?_ _
          go_wp2
          go_ret
          exact ⟨rfl, HS1.out.2⟩

theorem safe_int (l0 l1 : List Act) (A0 A1 : Option Addr) (n0 n1 c0 c1 : Nat) (x : Int) (w : World) (hn0 : l0.length = n0) (hc0 : n0 ≤ c0) (hm0 : c0 ≤ 9223372036854775807) (hr0 : Acts w w.heap.size A0 l0)
    (hn1 : l1.length = n1) (hc1 : n1 ≤ c1) (hm1 : c1 ≤ 9223372036854775807) (hr1 : Acts w w.heap.size A1 l1) (hx : 0 ≤ x) (hx2 : x < 256) :
    Calls Try.prog 3 #[.slice A0 n0 c0, .slice A1 n1 c1, .int .u8 x] w fun e w' => e = .returned (.bool true) ∧ Below w.heap.size w w' := by
  obtain ⟨s, rfl⟩ : ∃ s : Nat, x = (s : Int) := ⟨x.toNat, by omega⟩
  exact safe_walk l0 l1 A0 A1 n0 n1 c0 c1 s w hn0 hc0 hm0 hr0 hn1 hc1 hm1 hr1 (by omega)

theorem safe_contract (H : Type) (enc : TypeId × Value → H) (W : World) (base : Nat) (args : Array Value) (ds gs : List (DataW H)) (before : List MemPlace)
    (hval : ∀ (j : Nat) t v, Try.f3.params[j]? = some t → args[j]? = some v → Value.okWide Try.prog W .any base t v)
    (hW : DataW.Whole enc Try.prog Try.f3.params.toList Rows.diskSafeSpec.vars false W args.toList ds gs before) :
    Calls Try.prog 3 args W fun e W' => ∃ v, e = .returned v ∧ Rows.diskSafeSpec.post enc Try.prog Try.f3 false true false false W args v W' := by
  have hW' := hW
  have hlt : ∀ x ∈ before, x.block < W.heap.size := fun x hx => hW.lt x hx
  obtain ⟨p, q, hA0, hV, rfl, _, _⟩ := hW
  have hA : DataW.TrodAll enc Try.prog W 0 (fun _ => true) true Try.f3.params.toList args.toList ds p := hA0
  rw [Try.params3] at hA hval
  obtain ⟨v0, vs0, d0, ds0, p0, q0, hargs, rfl, rfl, h0, r0⟩ := trodAll_cons hA
  obtain ⟨v1, vs1, d1, ds1, p1, q1, rfl, rfl, rfl, h1, r1⟩ := trodAll_cons r0
  obtain ⟨v2, vs2, d2, ds2, p2, q2, rfl, rfl, rfl, h2, r2⟩ := trodAll_cons r1
  obtain ⟨rfl, rfl, rfl⟩ := trodAll_nil r2
  obtain rfl : args = #[v0, v1, v2] := by cases args; simp_all
  obtain ⟨rfl, rfl⟩ := trodVars_none hV
  clear hA0
  obtain ⟨A0, n0, c0, l0, rfl, hn0, hc0, hm0, hr0⟩ := open_actsL (hval 0 22 v0 rfl rfl) h0 (fun x hx => hlt x (by simp [hx]))
  unfold maxLen at hm0
  obtain ⟨A1, n1, c1, l1, rfl, hn1, hc1, hm1, hr1⟩ := open_actsL (hval 1 22 v1 rfl rfl) h1 (fun x hx => hlt x (by simp [hx]))
  unfold maxLen at hm1
  obtain ⟨a2, rfl, rfl, rfl, wa2⟩ := open_int Try.underlying5 (hval 2 5 v2 rfl rfl) h2
  have bd2 := bounds_u8 wa2
  refine (safe_int l0 l1 A0 A1 n0 n1 c0 c1 a2 W hn0 hc0 (by omega) hr0 hn1 hc1 (by omega) hr1 (by omega) (by omega)).mono fun e W' ⟨he, hb⟩ => ?_
  subst he
  exact ⟨_, rfl, law_post laid (by kernel_rfl) Try.underlying4 (by rw [Try.params3]; decide +kernel) rfl hW' ⟨rfl, rfl, rfl⟩ hb⟩

set_option maxRecDepth 100000 in
theorem safe_lifted (os : Os) (started : os.Started) (H : Type) (enc : TypeId × Value → H) :
    ReturnsInHanded {} Try.checked os 3 .any (Rows.diskSafeSpec.pre6 enc Try.prog Try.f3 Rows.diskSafeRow.domain false) (Rows.diskSafeSpec.post enc Try.prog Try.f3 false true false false) := by
  refine returnsInHanded_of_change (C := Try.checked) own started (by kernel_rfl) Try.func3
    (ChangeSpec.witness6 (enc := enc) (C := Try.checked) false ⟨#[], #[.slice none 0 0, .slice none 0 0, .int .u8 0], []⟩ 8 (by kernel_rfl) (by kernel_rfl) (by kernel_rfl) (by kernel_rfl)) ?_
  intro W base args ds gs before hval hW _ _
  exact safe_contract H enc W base args ds gs before hval hW

/-- DiskSafe is true for every input. -/
theorem safe_holds : Rows.DiskSafeSaid :=
  OpenClaim.holds_of_wide 3 Try.f3 rfl rfl rfl rfl rfl rfl rfl ⟨rfl, rfl, rfl, rfl, rfl⟩ rfl rfl rfl rfl rfl (by kernel_rfl) Try.func3 (by kernel_rfl)
    (of_decide_eq_true (by kernel_rfl)) (by unfold Func.isWrapper; first | (rw [if_pos (by decide +kernel)]; kernel_rfl) | (rw [if_neg (by decide +kernel)]; exact ⟨rfl, rfl⟩))
    (fun os started H enc _ => safe_lifted os started H enc)
end Go.Proofs.Ytnebenkodpnofaa
