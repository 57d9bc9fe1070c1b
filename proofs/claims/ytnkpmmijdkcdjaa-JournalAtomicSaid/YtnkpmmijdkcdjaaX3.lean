/-
  Patches are written, in order, and made safe.
-/
import Derived.Test.YtnkpmmijdkcdjaaX2
namespace Go.Proofs.Ytnkpmmijdkcdjaa
open Go.RowKit
attribute [local go_sem ↓] Go.wp_at_zero Go.wp_at_succ

theorem Dk.wrote_safe {α : Type} (k : Dk α) (s : Nat) (c : α) : (k.wrote s c).safe = k.safe := by simp only [Dk.wrote, Dk.op_safe]
theorem Dk.wrote_un {α : Type} (k : Dk α) (s : Nat) (c : α) : (k.wrote s c).un = k.un ++ [(s, c)] := rfl
theorem Dk.flush_len {α : Type} (k : Dk α) : k.flush.safe.length = k.safe.length := by
  unfold Dk.flush
  split
  · rw [Dk.op_safe]
  · exact length_puts _ _
theorem Dk.flush_un {α : Type} (k : Dk α) : k.flush.un.length ≤ k.un.length := by
  unfold Dk.flush
  split
  · rw [Dk.op_un]; exact Nat.le_refl _
  · exact Nat.zero_le _
theorem Dk.writes_len {α : Type} (l : List (Nat × α)) : ∀ k : Dk α, (k.writes l).2.safe.length = k.safe.length := by
  induction l with
  | nil => exact fun k => Dk.flush_len k
  | cons p r ih =>
    intro k
    unfold Dk.writes
    split
    · simp only [Dk.op_safe]
    · rw [ih, Dk.wrote_safe]
theorem Dk.writes_un {α : Type} (l : List (Nat × α)) : ∀ k : Dk α, (k.writes l).2.un.length ≤ k.un.length + l.length := by
  induction l with
  | nil => exact fun k => Dk.flush_un k
  | cons p r ih =>
    intro k
    unfold Dk.writes
    split
    · simp only [Dk.op_un]; omega
    · refine Nat.le_trans (ih _) ?_
      rw [Dk.wrote_un, List.length_append, List.length_singleton, List.length_cons]
      omega
theorem Turned.trans {α : Type} {f : α → List Value} {S S1 : Nat → Prop} {w w1 w2 : World} {b : Nat} {k : Dk α} (hK : Kept S w w1) (hS : ∀ t, S1 t → S t ∨ w.heap.size ≤ t) (hT : Turned f S1 w1 w2 b k) : Turned f S w w2 b k := by
  obtain ⟨hK2, S2, hD2, hS2⟩ := hT
  exact ⟨hK.trans hK2 hS, S2, hD2, fun t ht => (hS2 t ht).elim (hS t) fun h => .inr (Nat.le_trans hK.size h)⟩

section
variable {w : World} {S T : Nat → Prop} {bj b start n seq : Nat} {k : Dk Sx} {A : Option Addr} {g : List (Nat × Sx)}

set_option maxRecDepth 100000 in
set_option maxHeartbeats 1600000 in
theorem jwrite_any (hJ : JB w bj b start n seq) (hD : IsDisk sx w S b k) (hb : ¬ S bj) (hL : Pats w T A (ints g)) (hT : ∀ t, T t → ¬ S t) (m c : Nat) (hm : g.length = m) (hin : ∀ p ∈ g, p.1 < k.safe.length) (hun : k.un.length + m ≤ 1000000) :
    Calls Try.prog 32 #[.pointer (some ⟨bj, 0, none⟩), .slice A m c] w fun e w' => e = .returned (.int .i64 (k.writes g).1) ∧ Turned sx S w w' b (k.writes g).2 := by
  have HJ := Lib.hid hJ
  have HD := Lib.hid hD
  have Hb := Lib.hid hb
  have HL := Lib.hid hL
  have HT := Lib.hid hT
  have Hm := Lib.hid hm
  have Hin := Lib.hid hin
  have Hun := Lib.hid hun
  have Hlt := Lib.hid hJ.lt
  have hmm : m ≤ 1000000 := by omega
  clear hJ hD hb hL hT hm hin hun
  go_enter Try.func32, Try.ntmps32
  go_wp2
  go_loopw [6, 7, 10] (fun _ _ i wr => ∃ (j : Nat) (S' : Nat → Prop) (kj : Dk Sx), j ≤ m ∧ i = .int .i64 (j : Int) ∧ IsDisk sx wr S' b kj ∧ Kept S w wr ∧ (∀ t, S' t → S t ∨ w.heap.size ≤ t) ∧
    k.writes g = kj.writes (g.drop j) ∧ kj.un.length ≤ k.un.length + j ∧ kj.safe.length = k.safe.length) (fun _ _ i _ => m - (intOf i).toNat)
  case atStart => exact ⟨0, S, k, Nat.zero_le _, rfl, HD.out, Kept.refl _ _, fun t ht => .inl ht, rfl, Nat.le_refl _, rfl⟩
  case round =>
    obtain ⟨j, S', kj, hj, rfl, hD, hK, hS, hw, hu, hl⟩ := hrel
    have HDj := Lib.hid hD
    have HK := Lib.hid hK
    have HS := Lib.hid hS
    have Hw := Lib.hid hw
    have Hu := Lib.hid hu
    have Hl := Lib.hid hl
    have hJr : JB wr bj b start n seq := (hK.block bj Hlt.out Hb.out).trans HJ.out
    have hsz := hK.size
    have cj := hJr.cell 0
    have hnot : ∀ t, T t → t < w.heap.size → ¬ S' t := fun t ht hlt hs => by
      rcases hS t hs with h | h
      · exact HT.out t ht h
      · omega
    have hnj : Hid (¬ S' bj) := fun hs => by
      rcases hS bj hs with h | h
      · exact Hb.out h
      · have := Hlt.out; omega
    have Hnot := Lib.hid hnot
    have hLr : Pats wr (fun t => T t ∧ t < w.heap.size) A (ints g) := (HL.out.more fun i hi ht => ⟨ht, hi⟩).keep hsz fun i hi _ => hK.block i hi.2 fun hs => HT.out i hi.1 hs
    clear hD hK hS hw hu hl hJr hnot
    by_cases hlt : j < m
    · obtain ⟨p, hp⟩ : ∃ p, g[j]? = some p := ⟨_, List.getElem?_eq_getElem (by rw [Hm.out]; exact hlt)⟩
      obtain ⟨b1, o, ba, oa, cp, rfl, hT1, hT2, hb1, hb2, hcp, c0, c1, c2, hr⟩ := hLr j _ (ints_get hp)
      have hdrop : Hid (g.drop j = p :: g.drop (j + 1)) := by
        obtain ⟨h1, h2⟩ := List.getElem?_eq_some_iff.1 hp
        show _ = _
        rw [← h2, List.getElem_cons_drop]
      have hps := Hin.out p (List.mem_of_getElem? hp)
      simp only at c0 c2
      obtain ⟨s, x⟩ := p
      simp only at c0 c1 c2 hr hps hdrop
      have hps' : Hid (s < kj.safe.length) := by show _ < _; rw [Hl.out]; exact hps
      have hxt := x.ht
      obtain ⟨t, ht⟩ : ∃ t, t = x.t := ⟨_, rfl⟩
      rw [← ht] at c2 hxt
      have Ht := Lib.hid ht
      have Hr := Lib.hid hr
      have Hba := Lib.hid (Hnot.out ba hT2.1 hT2.2)
      have Hb2 := Lib.hid hb2
      have hcj : bj < wr.heap.size := by have := Hlt.out; omega
      have Hcj := Lib.hid hcj
      clear hp ht hr hps hT1 hT2 hb2 hcj hLr
      cases hoff : kj.off
      · have Hoff := Lib.hid hoff
        clear hoff
        go_wp2
        have d0 := (Bk.new wr 49 [.int .i64 (s : Int), .slice (some ⟨ba, oa, none⟩) 64 cp, .int .u16 (t : Int)])
        have hbW : Below wr.heap.size wr (wr.alloc (.cells #[.int .i64 (s : Int), .slice (some ⟨ba, oa, none⟩) 64 cp, .int .u16 (t : Int)] 49)) := (Below.refl _ wr).alloc (Nat.le_refl _) _
        have hW1 : (wr.alloc (.cells #[.int .i64 (s : Int), .slice (some ⟨ba, oa, none⟩) 64 cp, .int .u16 (t : Int)] 49)).heap.size = wr.heap.size + 1 := by simp
        have hnW : Hid (¬ S' wr.heap.size) := fun hs => by have := HDj.out.lt hs; omega
        have e0 := d0.cell 0
        have e1 := d0.cell 1
        have e2 := d0.cell 2
        have cjW := (hbW.cell (p := ⟨bj, 0, none⟩) Hcj.out).trans cj
        have HW := Lib.hid hbW
        have HW1 := Lib.hid hW1
        clear d0 hbW cj c0 c1 c2 hW1
        generalize wr.alloc (.cells #[.int .i64 (s : Int), .slice (some ⟨ba, oa, none⟩) 64 cp, .int .u16 (t : Int)] 49) = W at *
        have DW := Lib.hid (HDj.out.below HW.out)
        have HrW := Lib.hid (range_of_block Hr.out (HW.out.block ba Hb2.out))
        have HbW : Hid (ba < W.heap.size) := Nat.lt_of_lt_of_le Hb2.out HW.out.size
        have HunW : Hid (kj.un.length ≤ 1073741824) := by have := Hu.out; have := Hun.out; show _ ≤ _; omega
        obtain ⟨gp, hgp⟩ : ∃ gp, gp = wr.heap.size := ⟨_, rfl⟩
        have HcjW : Hid (bj < W.heap.size) := Nat.lt_of_lt_of_le Hcj.out HW.out.size
        have HgW : Hid (wr.heap.size < W.heap.size) := by rw [HW1.out]; exact Nat.lt_succ_self _
        go_region_held3 (fun w' : World => w'.cell? ⟨bj, 0, none⟩ = some (.pointer (some ⟨b, 0, none⟩)) ∧ w'.cell? ⟨wr.heap.size, 0, none⟩ = some (.int .i64 (s : Int)) ∧ w'.cell? ⟨wr.heap.size, 1, none⟩ = some (.slice (some ⟨ba, oa, none⟩) 64 cp) ∧ w'.cell? ⟨wr.heap.size, 2, none⟩ = some (.int .u16 (t : Int)))
          (first | exact ⟨cjW, e0, e1, e2⟩ | assumption)
          (first | (go_at_call 45; (refine (write_any sx_enc W.drew S' b kj (DW.out.keep fun _ _ => rfl) s hps'.out ba oa cp (bytesV x.b) (t : Int) x (by rw [Ht.out]; rfl) (by rw [length_bytesV, x.hb]) (range_of_block HrW.out rfl) Hba.out HbW.out HunW.out Hoff.out).mono ?_); rintro e w2 ⟨rfl, hT⟩; have T2 := Lib.hid hT; have hkp : ∀ i, i < W.heap.size → ¬ S' i → w2.heap[i]? = W.heap[i]? := fun i hi hs => hT.1.block i hi hs; have k0 := (World.cell?_of_block (a := ⟨bj, 0, none⟩) (hkp bj HcjW.out hnj.out)).trans cjW; have k1 := (World.cell?_of_block (a := ⟨wr.heap.size, 0, none⟩) (hkp _ HgW.out hnW.out)).trans e0; have k2 := (World.cell?_of_block (a := ⟨wr.heap.size, 1, none⟩) (hkp _ HgW.out hnW.out)).trans e1; have k3 := (World.cell?_of_block (a := ⟨wr.heap.size, 2, none⟩) (hkp _ HgW.out hnW.out)).trans e2; have kk := And.intro k0 (And.intro k1 (And.intro k2 k3)); clear hT hkp))
        go_wp2
        obtain ⟨hK2, S2, hD2, hS2⟩ := T2.out
        have hKW : Kept S w W.drew := (HK.out.trans (Kept.of_below (S := S) HW.out) fun i hi => .inl hi).drew
        have A1 := Lib.hid (hKW.trans hK2 HS.out)
        have A2 : Hid (∀ t, S2 t → S t ∨ w.heap.size ≤ t) := fun t ht => (hS2 t ht).elim (HS.out t) fun h => .inr (Nat.le_trans hKW.size h)
        have A3 := Lib.hid hD2
        have A4 : Hid (k.writes g = (kj.wrote s x).writes (g.drop (j + 1))) := by
          show _ = _
          rw [Hw.out, hdrop.out, Dk.writes, Hoff.out]; rfl
        have A5 : Hid ((kj.wrote s x).un.length ≤ k.un.length + (j + 1)) := by
          show _ ≤ _
          rw [Dk.wrote_un, List.length_append, List.length_singleton]; have := Hu.out; omega
        have A6 : Hid ((kj.wrote s x).safe.length = k.safe.length) := by
          show _ = _
          rw [Dk.wrote_safe]; exact Hl.out
        clear hK2 hD2 hS2 hKW k0 k1 k2 k3 kk cjW e0 e1 e2 T2
        go_roundw
        case rel => exact ⟨j + 1, S2, kj.wrote s x, by omega, by go_num, A3.out, A1.out, A2.out, A4.out, A5.out, A6.out⟩
        case measure => simp [intOf]; omega
      · have Hoff := Lib.hid hoff
        clear hoff
        go_wp2
        have d0 := (Bk.new wr 49 [.int .i64 (s : Int), .slice (some ⟨ba, oa, none⟩) 64 cp, .int .u16 (t : Int)])
        have hbW : Below wr.heap.size wr (wr.alloc (.cells #[.int .i64 (s : Int), .slice (some ⟨ba, oa, none⟩) 64 cp, .int .u16 (t : Int)] 49)) := (Below.refl _ wr).alloc (Nat.le_refl _) _
        have hW1 : (wr.alloc (.cells #[.int .i64 (s : Int), .slice (some ⟨ba, oa, none⟩) 64 cp, .int .u16 (t : Int)] 49)).heap.size = wr.heap.size + 1 := by simp
        have hnW : Hid (¬ S' wr.heap.size) := fun hs => by have := HDj.out.lt hs; omega
        have e0 := d0.cell 0
        have e1 := d0.cell 1
        have e2 := d0.cell 2
        have cjW := (hbW.cell (p := ⟨bj, 0, none⟩) Hcj.out).trans cj
        have HW := Lib.hid hbW
        have HW1 := Lib.hid hW1
        clear d0 hbW cj c0 c1 c2 hW1
        generalize wr.alloc (.cells #[.int .i64 (s : Int), .slice (some ⟨ba, oa, none⟩) 64 cp, .int .u16 (t : Int)] 49) = W at *
        have DW := Lib.hid (HDj.out.below HW.out)
        have HrW := Lib.hid (range_of_block Hr.out (HW.out.block ba Hb2.out))
        have HbW : Hid (ba < W.heap.size) := Nat.lt_of_lt_of_le Hb2.out HW.out.size
        have HunW : Hid (kj.un.length ≤ 1073741824) := by have := Hu.out; have := Hun.out; show _ ≤ _; omega
        obtain ⟨gp, hgp⟩ : ∃ gp, gp = wr.heap.size := ⟨_, rfl⟩
        have HcjW : Hid (bj < W.heap.size) := Nat.lt_of_lt_of_le Hcj.out HW.out.size
        have HgW : Hid (wr.heap.size < W.heap.size) := by rw [HW1.out]; exact Nat.lt_succ_self _
        go_region_held3 (fun w' : World => w'.cell? ⟨bj, 0, none⟩ = some (.pointer (some ⟨b, 0, none⟩)) ∧ w'.cell? ⟨wr.heap.size, 0, none⟩ = some (.int .i64 (s : Int)) ∧ w'.cell? ⟨wr.heap.size, 1, none⟩ = some (.slice (some ⟨ba, oa, none⟩) 64 cp) ∧ w'.cell? ⟨wr.heap.size, 2, none⟩ = some (.int .u16 (t : Int)))
          (first | exact ⟨cjW, e0, e1, e2⟩ | assumption)
          (first | (go_at_call 45; (refine (write_off W.drew S' b kj (DW.out.keep fun _ _ => rfl) s hps'.out (some ⟨ba, oa, none⟩) cp (.int .u16 (t : Int)) Hoff.out).mono ?_); rintro e w2 ⟨rfl, hT⟩; have T2 := Lib.hid hT; have hkp : ∀ i, i < W.heap.size → ¬ S' i → w2.heap[i]? = W.heap[i]? := fun i hi hs => hT.1.block i hi hs; have k0 := (World.cell?_of_block (a := ⟨bj, 0, none⟩) (hkp bj HcjW.out hnj.out)).trans cjW; have k1 := (World.cell?_of_block (a := ⟨wr.heap.size, 0, none⟩) (hkp _ HgW.out hnW.out)).trans e0; have k2 := (World.cell?_of_block (a := ⟨wr.heap.size, 1, none⟩) (hkp _ HgW.out hnW.out)).trans e1; have k3 := (World.cell?_of_block (a := ⟨wr.heap.size, 2, none⟩) (hkp _ HgW.out hnW.out)).trans e2; have kk := And.intro k0 (And.intro k1 (And.intro k2 k3)); clear hT hkp))
        go_wp2
        obtain ⟨hK2, S2, hD2, hS2⟩ := T2.out
        have hKW : Kept S w W.drew := (HK.out.trans (Kept.of_below (S := S) HW.out) fun i hi => .inl hi).drew
        have A4 : k.writes g = (6, kj.op) := by
          rw [Hw.out, hdrop.out, Dk.writes, Hoff.out]; rfl
        go_ret
        rw [A4]
        exact ⟨rfl, hKW.trans hK2 HS.out, S2, hD2, fun t ht => (hS2 t ht).elim (HS.out t) fun h => .inr (Nat.le_trans hKW.size h)⟩
    · obtain rfl : j = m := by omega
      have hnil : g.drop j = [] := by rw [← Hm.out]; exact List.drop_length
      have A4 : Hid (k.writes g = (if kj.off then 6 else 0, kj.flush)) := by
        show _ = _
        rw [Hw.out, hnil]; rfl
      have Hun2 : Hid (kj.un.length ≤ 1073741824) := by have := Hu.out; have := Hun.out; show _ ≤ _; omega
      clear hnil hLr
      obtain ⟨fe, hfe⟩ : ∃ fe, fe = (if kj.off then (6 : Int) else 0) := ⟨_, rfl⟩
      have Hfe := Lib.hid hfe
      rw [← hfe] at A4
      clear hfe
      go_wp2_with (go_at_call 46; refine (flush_any sx_enc _ S' b kj HDj.out Hun2.out).mono ?_; rintro e w2 ⟨he, hT⟩; rw [← Hfe.out] at he; subst he; have T2 := Lib.hid hT; clear hT)
      go_ret
      rw [A4.out]
      exact ⟨rfl, Turned.trans HK.out HS.out T2.out⟩

theorem headS_bytes (seq n : Nat) : (headS seq n).b = headB seq n := rfl

set_option maxHeartbeats 800000 in
/-- The patches are written, and then the head, with a Count of 0. -/
theorem finish_any (hJ : JB w bj b start n seq) (hD : IsDisk sx w S b k) (hb : ¬ S bj) (hL : Pats w T A (ints g)) (hT : ∀ t, T t → ¬ S t) (m c : Nat) (hm : g.length = m) (hin : ∀ p ∈ g, p.1 < k.safe.length) (hst : start < k.safe.length) (hun : k.un.length + m ≤ 900000) (q : Nat) (hq : q < 18446744073709551616) :
    Calls Try.prog 30 #[.pointer (some ⟨bj, 0, none⟩), .int .u64 (q : Int), .slice A m c] w fun e w' => e = .returned (.int .i64 (k.finish start q g).1) ∧ Turned sx S w w' b (k.finish start q g).2 := by
  have hlen := Dk.writes_len g k
  have hun2 : (k.writes g).2.un.length ≤ 900000 := by have := Dk.writes_un g k; omega
  have Hw := Lib.hid (fun c => jwrite_any (c := c) hJ hD hb hL hT m hm hin (by omega))
  have Hq := Lib.hid hq
  have Hlt := Lib.hid hJ.lt
  have HJ := Lib.hid hJ
  have Hb := Lib.hid hb
  have Hst : Hid (start < (k.writes g).2.safe.length) := by show _ < _; rw [hlen]; exact hst
  have Hun2 := Lib.hid hun2
  unfold Dk.finish
  generalize hr : k.writes g = r at *
  obtain ⟨e0, k1⟩ := r
  simp only at Hst Hun2 Hw ⊢
  clear hJ hD hb hL hT hm hin hun hq hr hlen hun2 hst
  by_cases he : e0 = 0
  · subst he
    rw [if_pos rfl]
    go_enter Try.func30, Try.ntmps30
    go_wp2_with (go_at_call 32; refine (Hw.out c).mono ?_; rintro e w1 ⟨rfl, hT1⟩; have T1 := Lib.hid hT1; clear hT1)
    have hJ1 : JB w1 bj b start n seq := (T1.out.1.block bj Hlt.out Hb.out).trans HJ.out
    refine (head_any w1 bj b start n seq q 0 hJ1 Hq.out (by omega)).mono ?_
    rintro e w2 ⟨gh, rfl, hP, hB2⟩
    have HP := Lib.hid hP
    have HB2 := Lib.hid hB2
    have HJ1 := Lib.hid hJ1
    clear hP hB2 hJ1
    obtain ⟨hK1, S1, hD1, hS1⟩ := T1.out
    have hlt1 := Nat.lt_of_lt_of_le Hlt.out hK1.size
    have hb1 : ¬ S1 bj := fun hs => by
      rcases hS1 bj hs with h | h
      · exact Hb.out h
      · have := Hlt.out; omega
    have HK1 := Lib.hid hK1
    have HD1 := Lib.hid (hD1.below HB2.out)
    have HS1 := Lib.hid hS1
    have Hb1 := Lib.hid hb1
    have HJ2 := Lib.hid ((HB2.out.block bj hlt1).trans HJ1.out)
    have Hnew : Hid (∀ t, w1.heap.size ≤ t → ¬ S1 t) := fun t ht hs => by have := hD1.lt hs; omega
    have HK2 := Lib.hid (HK1.out.trans (Kept.of_below (S := S) HB2.out) fun i hi => .inl hi)
    clear hK1 hD1 hS1 hb1 hlt1
    go_wp2_with fail
    refine (jwrite_any (g := [(start, headS q 0)]) (T := fun i => w1.heap.size ≤ i) HJ2.out HD1.out Hb1.out HP.out Hnew.out 1 1 rfl (fun p hp => by simp only [List.mem_singleton] at hp; subst hp; exact Hst.out) (by have := Hun2.out; omega)).mono ?_
    rintro e w3 ⟨rfl, hT3⟩
    have T3 := Lib.hid hT3
    clear hT3
    go_wp2_with fail
    go_ret
    exact ⟨rfl, Turned.trans HK2.out HS1.out T3.out⟩
  · rw [if_neg he]
    have he2 : (e0 != 0) = true := by simp [he]
    go_enter Try.func30, Try.ntmps30
    go_wp2_with (go_at_call 32; refine (Hw.out c).mono ?_; rintro e w1 ⟨rfl, hT1⟩; have T1 := Lib.hid hT1; clear hT1)
    go_ret
    exact ⟨rfl, T1.out⟩
end
end Go.Proofs.Ytnkpmmijdkcdjaa
