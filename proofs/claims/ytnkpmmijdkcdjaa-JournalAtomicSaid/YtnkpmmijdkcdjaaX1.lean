/-
  Heads and lists as the code makes them; patches as they lie in memory.
-/
import Derived.Test.YtnkpmmijdkcdjaaX0
namespace Go.Proofs.Ytnkpmmijdkcdjaa
open Go.RowKit
attribute [local go_sem ↓] Go.wp_at_zero Go.wp_at_succ

/-- Are two slices of bytes alike? -/
theorem equal_any (l m : List UInt8) (A A' : Option Addr) (n c n' c' B B' : Nat) (w : World) (hn : l.length = n) (hn' : m.length = n') (hr : Rd w B A (bytesV l)) (hr' : Rd w B' A' (bytesV m)) :
    Calls Try.prog 39 #[.slice A n c, .slice A' n' c'] w fun e w' => e = .returned (.bool (l == m)) ∧ w = w' := by
  have h1 := str_of (c := c) hn hr
  have h2 := str_of (c := c') hn' hr'
  clear hr hr' hn hn'
  go_enter Try.func39, Try.ntmps39
  go_wp2
  go_ret
  exact ⟨rfl, rfl⟩

/-- A head's bytes. -/
theorem headOf_any (seq n : Nat) (hs : seq < 18446744073709551616) (hn : n < 65536) (w : World) :
    Calls Try.prog 40 #[.int .u64 (seq : Int), .int .i64 (n : Int)] w fun e w' => ∃ v, e = .returned v ∧ Made w (headB seq n) v w' := by
  obtain ⟨C, hC⟩ : ∃ C, C = (bytesV (List.replicate 60 0)).toArray := ⟨_, rfl⟩
  have hmk : ∀ u : World, (Instr.makeSlice 39 (.int .i64 60) (.int .i64 60)).run Try.prog u = .ok (.slice (some ⟨u.heap.size, 0, none⟩) 60 60) (u.alloc (.cells C 5)) := fun u => by
    rw [hC]; exact make_bytes 60 (by omega) u
  have hcv : IntKind.u64.wrap (n : Int) = (n : Int) := by rw [IntKind.wrap_u64]; omega
  have HC := Lib.hid hC
  have Hs := Lib.hid hs
  have Hn := Lib.hid hn
  clear hs hn hC
  have hB0 : Rd (w.alloc (.cells C 5)) (w.alloc (.cells C 5)).heap.size (some ⟨w.heap.size, 0, none⟩) (bytesV (List.replicate 60 0)) := by
    have h := (Bk.new w 5 (bytesV (List.replicate 60 0))).rd 60 0
    rw [← HC.out, List.drop_zero, List.take_of_length_le (by simp [length_bytesV])] at h
    exact h
  have b0 : Below w.heap.size w (w.alloc (.cells C 5)) := (Below.refl _ _).alloc (Nat.le_refl _) _
  have HB0 := Lib.hid hB0
  have Hb0 := Lib.hid b0
  clear hB0 b0
  go_enter Try.func40, Try.ntmps40
  go_wp2_with fail
  refine (set_ok (List.replicate 60 0) (some ⟨w.heap.size, 0, none⟩) 60 60 0 8 seq _ (by simp) HB0.out (by omega) (by omega) (by omega) (by omega) Hs.out (by have := Hs.out; simp [fitB]; omega)).mono ?_
  rintro e w1 ⟨v1, rfl, hM1⟩
  have HM1 := Lib.hid hM1
  obtain ⟨hM1o, hM1b⟩ := hM1
  have hl1' : (put (List.replicate 60 (0 : UInt8)) 0 (digs seq 8)).length = 60 := by rw [length_put _ _ _ (by simp [length_digs])]; simp
  rw [hl1'] at hM1o
  obtain ⟨hl1, A1, c1, rfl, hc1, hc1m, hr1⟩ := own_rd hM1o
  have Hr1 := Lib.hid hr1
  have Hb1 := Lib.hid (Hb0.out.trans (hM1b.mono (by simp)))
  have Hl1 := Lib.hid hl1'
  clear hM1o hM1b hl1 hc1m hr1 hl1' HM1
  go_wp2_with fail
  refine (set_ok (put (List.replicate 60 0) 0 (digs seq 8)) A1 60 c1 8 2 n _ Hl1.out Hr1.out (by omega) (by omega) (by omega) (by omega) (by have := Hn.out; omega) (by have := Hn.out; simp [fitB]; omega)).mono ?_
  rintro e w2 ⟨v2, rfl, hM2⟩
  obtain ⟨hM2o, hM2b⟩ := hM2
  have hl2' : (put (put (List.replicate 60 (0 : UInt8)) 0 (digs seq 8)) 8 (digs n 2)).length = 60 := by rw [length_put _ _ _ (by rw [Hl1.out, length_digs]; omega), Hl1.out]
  rw [hl2'] at hM2o
  obtain ⟨hl2, A2, c2, rfl, hc2, hc2m, hr2⟩ := own_rd hM2o
  have Hr2 := Lib.hid hr2
  have Hb2 := Lib.hid (Hb1.out.trans (hM2b.mono Hb1.out.size))
  have Hl2 := Lib.hid hl2'
  clear hM2o hM2b hl2 hc2m hr2 hl2'
  go_wp2_with fail
  refine (seal_any _ A2 60 c2 _ Hl2.out Hr2.out hc2 (by omega)).mono ?_
  rintro e w3 ⟨v3, rfl, hM3⟩
  obtain ⟨hM3o, hM3b⟩ := hM3
  have H3 : Hid (Made w (headB seq n) v3 w3) := ⟨own_mono hM3o Hb2.out.size, Hb2.out.trans (hM3b.mono Hb2.out.size)⟩
  clear hM3o hM3b
  go_wp2_with fail
  go_ret
  exact ⟨_, rfl, H3.out⟩

/-- Patches, as they lie, in the blocks of T. -/
def Pats (w : World) (T : Nat → Prop) (A : Option Addr) (L : List (Int × Sx)) : Prop :=
  ∀ i p, L[i]? = some p → ∃ b o ba oa cp, A = some ⟨b, o, none⟩ ∧ T b ∧ T ba ∧ b < w.heap.size ∧ ba < w.heap.size ∧ 64 ≤ cp ∧ w.cell? ⟨b, o + i * 3, none⟩ = some (.int .i64 p.1) ∧
    w.cell? ⟨b, o + i * 3 + 1, none⟩ = some (.slice (some ⟨ba, oa, none⟩) 64 cp) ∧ w.cell? ⟨b, o + i * 3 + 2, none⟩ = some (.int .u16 (p.2.t : Int)) ∧ w.rangeAt ba oa (bytesV p.2.b)
theorem Pats.keep {w w' : World} {T : Nat → Prop} {A : Option Addr} {L : List (Int × Sx)} (h : Pats w T A L) (hs : w.heap.size ≤ w'.heap.size) (hk : ∀ i, T i → i < w.heap.size → w'.heap[i]? = w.heap[i]?) : Pats w' T A L := fun i p hp => by
  obtain ⟨b, o, ba, oa, cp, h1, h2, h3, h4, h5, h6, h7, h8, h9, h10⟩ := h i p hp
  have hb := hk b h2 h4
  exact ⟨b, o, ba, oa, cp, h1, h2, h3, by omega, by omega, h6, (World.cell?_of_block (a := ⟨b, _, none⟩) hb).trans h7, (World.cell?_of_block (a := ⟨b, _, none⟩) hb).trans h8, (World.cell?_of_block (a := ⟨b, _, none⟩) hb).trans h9, range_of_block h10 (hk ba h3 h5)⟩
theorem Pats.below {w w' : World} {T : Nat → Prop} {A : Option Addr} {L : List (Int × Sx)} (h : Pats w T A L) (hb : Below w.heap.size w w') : Pats w' T A L := h.keep hb.size fun i _ hi => hb.block i hi
theorem Pats.more {w : World} {T T' : Nat → Prop} {A : Option Addr} {L : List (Int × Sx)} (h : Pats w T A L) (hT : ∀ i, i < w.heap.size → T i → T' i) : Pats w T' A L := fun i p hp => by
  obtain ⟨b, o, ba, oa, cp, h1, h2, h3, h4, h5, h6⟩ := h i p hp
  exact ⟨b, o, ba, oa, cp, h1, hT b h4 h2, hT ba h5 h3, h4, h5, h6⟩
def ints (g : List (Nat × Sx)) : List (Int × Sx) := g.map fun p => ((p.1 : Int), p.2)
theorem ints_get {g : List (Nat × Sx)} {i : Nat} {p : Nat × Sx} (h : g[i]? = some p) : (ints g)[i]? = some ((p.1 : Int), p.2) := by rw [ints, List.getElem?_map, h]; rfl
theorem words_fit (g : List (Nat × Sx)) (h : ∀ p ∈ g, p.1 < 65536) : ∀ x ∈ words g, x < 65536 := fun x hx => by
  simp only [words, List.mem_flatMap, List.mem_cons, List.not_mem_nil, or_false] at hx
  obtain ⟨p, hp, rfl | rfl⟩ := hx
  · exact h p hp
  · exact p.2.ht
theorem words_take (g : List (Nat × Sx)) (j : Nat) (p : Nat × Sx) (h : g[j]? = some p) : words (g.take (j + 1)) = words (g.take j) ++ [p.1, p.2.t] := by
  obtain ⟨hj, rfl⟩ := List.getElem?_eq_some_iff.1 h
  rw [List.take_succ_eq_append_getElem hj, words_append]
  rfl

set_option maxHeartbeats 800000 in
/-- A list's bytes. -/
theorem listOf_any (g : List (Nat × Sx)) (T : Nat → Prop) (A : Option Addr) (m c : Nat) (w : World) (hL : Pats w T A (ints g)) (hm : g.length = m) (h15 : m ≤ 15) (hf : ∀ p ∈ g, p.1 < 65536) :
    Calls Try.prog 48 #[.slice A m c] w fun e w' => ∃ v, e = .returned v ∧ Made w (listB g) v w' := by
  have HL := Lib.hid hL
  have Hm := Lib.hid hm
  have Hf := Lib.hid hf
  clear hL hm hf
  go_enter Try.func48, Try.ntmps48
  go_wp2
  go_loopw [3, 5, 10] (fun v _ i wr => ∃ j : Nat, j ≤ m ∧ i = .int .i64 (j : Int) ∧ wr.ownsRow w.heap.size 37 1 v (2 * j) (numsV (words (g.take j))) ∧ Below w.heap.size w wr) (fun _ _ i _ => m - (intOf i).toNat)
  case atStart => exact ⟨0, Nat.zero_le _, rfl, World.ownsRow_nil _ _ _ _, Below.refl _ _⟩
  case round =>
    obtain ⟨j, hj, rfl, hown, hbe⟩ := hrel
    have Hbe := Lib.hid hbe
    have Hown := Lib.hid hown
    clear hbe hown
    by_cases hlt : j < m
    · obtain ⟨p, hp⟩ : ∃ p, g[j]? = some p := ⟨_, List.getElem?_eq_getElem (by rw [Hm.out]; exact hlt)⟩
      obtain ⟨b, o, ba, oa, cp, rfl, _, _, hb, _, _, c0, c1, c2, _⟩ := (HL.out.below Hbe.out) j _ (ints_get hp)
      have hpf := Hf.out p (List.mem_of_getElem? hp)
      have htf := p.2.ht
      have Hw := Lib.hid (words_take g j p hp)
      simp only at c0 c2
      obtain ⟨s, hs⟩ : ∃ s, s = p.1 := ⟨_, rfl⟩
      obtain ⟨t, ht⟩ : ∃ t, t = p.2.t := ⟨_, rfl⟩
      rw [← hs, ← ht] at Hw
      rw [← hs] at c0 hpf
      rw [← ht] at c2 htf
      have e1 : IntKind.u64.wrap (s : Int) = (s : Int) := by rw [IntKind.wrap_u64]; omega
      have e2 : IntKind.u64.wrap (t : Int) = (t : Int) := by rw [IntKind.wrap_u64]; omega
      have hsz := Hbe.out.size
      clear hp hs ht hpf htf hb
      go_wp2_with (at_builtin; refine wpList_app23 _ rfl (.tmp 14) (.tmp 21) rfl w.heap.size _ (2 * j) _ rfl ((Hown.out.alloc _).alloc _) (wr.heap.size + 2) _ 2 2 [s, t] rfl rfl ?c1 (by omega) (by simp; omega) ?_)
      case c1 => exact .inr ⟨wr.heap.size + 1, 0, rfl, by simp, fun i u hu => by
        match i, hu with
        | 0, hu => rw [World.cell?_alloc_at _ _ _ _ (by simp)]; simpa [numsV, numV] using hu
        | 1, hu => rw [World.cell?_alloc_at _ _ _ _ (by simp)]; simpa [numsV, numV] using hu
        | i + 2, hu => simp [numsV] at hu⟩
      intro v' w1 hown' hg'
      have hbe' : Below w.heap.size w w1 := ((Hbe.out.alloc hsz _).alloc (by simp; omega) _).grown hg' (by simp; omega) (fun k hk => (Hown.out.lt k hk).1)
      rw [← Hw.out] at hown'
      have HO := Lib.hid hown'
      have HB := Lib.hid hbe'
      clear hown' hbe' hg'
      go_wp2
      go_roundw
      case rel => exact ⟨j + 1, by omega, by go_num, HO.out, HB.out⟩
      case measure => simp [intOf]; omega
    · obtain rfl : j = m := by omega
      have hall : g.take j = g := by rw [← Hm.out]; exact List.take_length
      rw [hall] at Hown
      obtain ⟨hl, A1, c1, rfl, hc1, hc1m, hr1⟩ := own_rd Hown.out
      have Hr1 := Lib.hid hr1
      have hfw : (words g).all (fitB · 2) = true := by
        rw [List.all_eq_true]
        intro x hx
        have := words_fit g Hf.out x hx
        simp [fitB]; omega
      have hlw : (words g).length = 2 * j := by rw [length_words, Hm.out]
      have hlay : layB 2 (words g) = true := by
        simp only [layB, hfw, hlw, Bool.and_true, decide_eq_true_eq]; omega
      have Hlay := Lib.hid hlay
      have Hlw := Lib.hid hlw
      have Hwf : Hid (∀ x ∈ words g, x < 18446744073709551616) := fun x hx => by have := words_fit g Hf.out x hx; omega
      clear hl hr1 hall hlay hlw hc1m Hown hlt hj hfw
      go_wp2_with fail
      refine (lay_any (words g) A1 (2 * j) c1 2 _ Hlw.out Hr1.out (by omega) (by omega) Hwf.out).mono ?_
      rintro e w2 ⟨hyes, _⟩
      obtain ⟨v2, rfl, hM2o, hM2b⟩ := hyes Hlay.out
      have hl2 : (layl 2 (words g)).length = 4 * j := by rw [length_layl, Hlw.out]; omega
      rw [hl2] at hM2o
      obtain ⟨_, A2, c2, rfl, hc2, hc2m, hr2⟩ := own_rd hM2o
      have Hr2 := Lib.hid hr2
      have Hb2 := Lib.hid (Hbe.out.trans (hM2b.mono Hbe.out.size))
      have Hl2 := Lib.hid hl2
      clear hyes hM2o hM2b hr2 hl2 hc2m
      go_wp2_with fail
      refine (fill_ok (layl 2 (words g)) A2 (4 * j) c2 64 _ Hl2.out Hr2.out (by omega) (by omega)).mono ?_
      rintro e w3 ⟨v3, rfl, hM3⟩
      rw [← listB_eq g (by rw [Hm.out]; exact h15)] at hM3
      obtain ⟨hM3o, hM3b⟩ := hM3
      have H3 : Hid (Made w (listB g) v3 w3) := ⟨own_mono hM3o Hb2.out.size, Hb2.out.trans (hM3b.mono Hb2.out.size)⟩
      clear hM3o hM3b
      go_wp2_with fail
      go_ret
      exact ⟨_, rfl, H3.out⟩
end Go.Proofs.Ytnkpmmijdkcdjaa
