/-
  A disk and a journal of our own; the document's examples.
-/
import Derived.Test.YtnkpmmijdkcdjaaV
import Derived.Deep.RegionWith
namespace Go.Proofs.Ytnkpmmijdkcdjaa
open Go.RowKit
attribute [local go_sem ↓] Go.wp_at_zero Go.wp_at_succ

/-- What is no part of a disk or a journal lies as it lay. -/
def Else (w w' : World) : Prop := ∀ (t : Nat) (o : Obj), w.heap[t]? = some o → (∀ c e fr, o = .cells c e fr → e ≠ 65 ∧ e ≠ 79 ∧ e ≠ 95 ∧ e ≠ 68) → w'.heap[t]? = some o
theorem Else.trans {a b c : World} (h : Else a b) (k : Else b c) : Else a c := fun t o ho hn => k t o (h t o ho hn) hn
theorem Else.refl (w : World) : Else w w := fun _ _ h _ => h
theorem Else.of_below {w w' : World} (h : Below w.heap.size w w') : Else w w' := fun t _ ho _ => (h.block t (Array.getElem?_eq_some_iff.1 ho).1).trans ho
theorem foot_type {w : World} {S : Nat → Prop} {b : Nat} {k : Dk Sx} (h : IsDisk sx w S b k) {t : Nat} (ht : S t) : ∃ c e, w.heap[t]? = some (.cells c e (0, 0)) ∧ (e = 65 ∨ e = 79 ∨ e = 95) := by
  obtain ⟨bn, bs, cn, cs, vu, rfl, hm⟩ := h
  rcases ht with rfl | rfl | rfl | ht
  · exact ⟨_, _, hm.blk, .inl rfl⟩
  · obtain ⟨c, hc⟩ := hm.nowR.elemType; exact ⟨c, _, hc, .inr (.inl rfl)⟩
  · obtain ⟨c, hc⟩ := hm.safeR.elemType; exact ⟨c, _, hc, .inr (.inl rfl)⟩
  · rcases hm.unR with ⟨rfl, _⟩ | ⟨bu, cu, rfl, hr⟩
    · cases ht
    · cases ht
      obtain ⟨c, hc⟩ := hr.elemType; exact ⟨c, _, hc, .inr (.inr rfl)⟩
theorem Else.of_kept {w w' : World} {S : Nat → Prop} {b : Nat} {k : Dk Sx} (h : IsDisk sx w S b k) (hk : Kept S w w') : Else w w' := fun t o ho hn =>
  (hk.block t (Array.getElem?_eq_some_iff.1 ho).1 fun hs => by
    obtain ⟨c, e, h1, h2⟩ := foot_type h hs
    rw [h1] at ho
    cases ho
    obtain ⟨n1, n2, n3, _⟩ := hn c e (0, 0) rfl
    rcases h2 with h | h | h
    · exact n1 h
    · exact n2 h
    · exact n3 h).trans ho
theorem Else.of_kept2 {w w' : World} {S : Nat → Prop} {bj b start n q : Nat} {k : Dk Sx} (h : IsDisk sx w S b k) (hJ : JB w bj b start n q) (hk : Kept (fun i => S i ∨ i = bj) w w') : Else w w' := fun t o ho hn =>
  (hk.block t (Array.getElem?_eq_some_iff.1 ho).1 fun hs => by
    rcases hs with hs | rfl
    · obtain ⟨c, e, h1, h2⟩ := foot_type h hs
      rw [h1] at ho
      cases ho
      obtain ⟨n1, n2, n3, _⟩ := hn c e (0, 0) rfl
      rcases h2 with h | h | h
      · exact n1 h
      · exact n2 h
      · exact n3 h
    · rw [show w.heap[t]? = _ from hJ] at ho
      cases ho
      exact (hn _ 68 (0, 0) rfl).2.2.2 rfl).trans ho
theorem Else.bk {w w' : World} (h : Else w w') {g : Nat} {e : TypeId} {cs : List Value} (hB : Bk w g e cs) (h1 : e ≠ 65 ∧ e ≠ 79 ∧ e ≠ 95 ∧ e ≠ 68) : Bk w' g e cs := h g _ hB fun c e' fr ho => by cases ho; exact h1

/-- A disk that is all new. -/
def OurD (B : Nat) (w : World) (b : Nat) (k : Dk Sx) : Prop := ∃ S, IsDisk sx w S b k ∧ ∀ i, S i → B ≤ i
/-- A disk and its journal, all new. -/
def Ours (B : Nat) (w : World) (bj b start n q : Nat) (k : Dk Sx) : Prop := ∃ S, IsDisk sx w S b k ∧ (∀ i, S i → B ≤ i) ∧ JB w bj b start n q ∧ ¬ S bj ∧ B ≤ bj
section
variable {B : Nat} {w w' : World} {bj b start n q q' m : Nat} {k k' : Dk Sx} {c : Int × Dk Sx} {v : Value}
theorem OurD.below (h : OurD B w b k) (hb : Below w.heap.size w w') : OurD B w' b k := by
  obtain ⟨S, h1, h2⟩ := h
  exact ⟨S, h1.below hb, h2⟩
theorem Ours.below (h : Ours B w bj b start n q k) (hb : Below w.heap.size w w') : Ours B w' bj b start n q k := by
  obtain ⟨S, h1, h2, h3, h4, h5⟩ := h
  exact ⟨S, h1.below hb, h2, (hb.block bj h3.lt).trans h3, h4, h5⟩
theorem Ours.disk (h : Ours B w bj b start n q k) : OurD B w b k := by
  obtain ⟨S, h1, h2, _⟩ := h
  exact ⟨S, h1, h2⟩
theorem Ours.turn {S : Nat → Prop} (h1 : IsDisk sx w S b k) (h2 : ∀ i, S i → B ≤ i) (h3 : JB w bj b start n q) (h4 : ¬ S bj) (h5 : B ≤ bj) (hB : B ≤ w.heap.size) (ht : Turned sx S w w' b k') : Ours B w' bj b start n q k' ∧ Below B w w' ∧ Else w w' := by
  obtain ⟨hK, S', hD, hS⟩ := ht
  refine ⟨⟨S', hD, fun i hi => ?_, (hK.block bj h3.lt h4).trans h3, fun hs => ?_, h5⟩, hK.below h2 hB, Else.of_kept h1 hK⟩
  · rcases hS i hi with h | h
    · exact h2 i h
    · omega
  · rcases hS bj hs with h | h
    · exact h4 h
    · have := h3.lt; omega
theorem OurD.turn {S : Nat → Prop} (h1 : IsDisk sx w S b k) (h2 : ∀ i, S i → B ≤ i) (hB : B ≤ w.heap.size) (ht : Turned sx S w w' b k') : OurD B w' b k' ∧ Below B w w' ∧ Else w w' := by
  obtain ⟨hK, S', hD, hS⟩ := ht
  exact ⟨⟨S', hD, fun i hi => (hS i hi).elim (h2 i) fun h => Nat.le_trans hB h⟩, hK.below h2 hB, Else.of_kept h1 hK⟩
theorem Ours.jturn {S : Nat → Prop} (h1 : IsDisk sx w S b k) (h3 : JB w bj b start n q) (h2 : ∀ i, S i → B ≤ i) (h5 : B ≤ bj) (hB : B ≤ w.heap.size) (ht : JTurned S w w' bj b start n q' k') : Ours B w' bj b start n q' k' ∧ Below B w w' ∧ Else w w' := by
  obtain ⟨hK, S', hD, hS, hJ, hn⟩ := ht
  refine ⟨⟨S', hD, fun i hi => (hS i hi).elim (h2 i) fun h => Nat.le_trans hB h, hJ, hn, h5⟩, hK.below (fun i hi => ?_) hB, Else.of_kept2 h1 h3 hK⟩
  rcases hi with h | rfl
  · exact h2 i h
  · exact h5
theorem ORes.good {S : Nat → Prop} (h : ORes S w b start n q m c v w') (h0 : IsDisk sx w S b k) (h2 : ∀ i, S i → B ≤ i) (hB : B ≤ w.heap.size) (hc : c.1 = 0) : ∃ bj, v = .tuple #[.pointer (some ⟨bj, 0, none⟩), .int .i64 (m : Int), .int .i64 0] ∧ Ours B w' bj b start n q c.2 ∧ Below B w w' ∧ Else w w' := by
  rcases h with ⟨_, bj, hv, hbj, hK, S', hD, hS, hJ, hn⟩ | ⟨h1, _⟩
  · exact ⟨bj, hv, ⟨S', hD, fun i hi => (hS i hi).elim (h2 i) fun h => Nat.le_trans hB h, hJ, hn, Nat.le_trans hB hbj⟩, hK.below h2 hB, Else.of_kept h0 hK⟩
  · exact absurd hc h1
theorem ORes.fell {S : Nat → Prop} (h : ORes S w b start n q m c v w') (h0 : IsDisk sx w S b k) (h2 : ∀ i, S i → B ≤ i) (hB : B ≤ w.heap.size) (hc : c.1 ≠ 0) : v = .tuple #[.pointer none, .int .i64 0, .int .i64 c.1] ∧ OurD B w' b c.2 ∧ Below B w w' ∧ Else w w' := by
  rcases h with ⟨h1, _⟩ | ⟨_, hv, ht⟩
  · exact absurd h1 hc
  · obtain ⟨a1, a2⟩ := OurD.turn h0 h2 hB ht
    exact ⟨hv, a1, a2⟩
end

theorem run_field49 (a : Int) (s : Value) (t : Int) (W : World) (hs : ∃ A n c, s = .slice A n c) : (Instr.field 49 (.agg #[.int .i64 a, s, .int .u16 t]) 1).run Try.prog W = .ok s W := by
  obtain ⟨A, n, c, rfl⟩ := hs
  kernel_rfl
def z0 : Dk Sx := Dk.fresh 20 zx
def z1 : Int × Dk Sx := z0.commit 4 0 [(2, cx 5)]
theorem z1_e : z1.1 = 0 := by rfl
theorem z1_done : z1.2.done = 9 := by kernel_rfl
theorem z1_dead : z1.2.dead = false := by rfl
theorem z1_now : z1.2.now[2]? = some (cx 5) := by rfl

set_option maxRecDepth 100000 in
set_option maxHeartbeats 3200000 in
theorem shown_any (w : World) : Calls Try.prog 9 #[] w fun e w' => e = .returned (.bool true) ∧ Below w.heap.size w w' := by
  go_enter Try.func9, Try.ntmps9
  go_wp2_with fail
  refine (new_any (f := sx) w 20 (by decide) zx sx_zero).mono ?_
  rintro e w1 ⟨b, S, rfl, hb1, hD1, hS1⟩
  have HD1 := Lib.hid hD1
  have HS1 := Lib.hid hS1
  have Hb1 := Lib.hid hb1
  clear hb1 hD1 hS1
  go_wp2_with fail
  refine (open_good (start := 4) (n := 8) HD1.out rfl (by omega) (by omega) (by omega) (by decide) (by decide) (by decide) zx (by rfl) 0 [] 0 rfl (.inr ⟨rfl, rfl, rfl⟩) (by decide) (fun i p h => by simp at h) (fun p h => by cases h)).mono ?_
  rintro e w2 ⟨v, rfl, hO⟩
  obtain ⟨bj, rfl, hO2, hb2, _⟩ := hO.good HD1.out HS1.out Hb1.out.size rfl
  have HO2 := Lib.hid hO2
  have Hb2 := Lib.hid (Hb1.out.trans hb2)
  clear hO hO2 hb2
  obtain ⟨S2, d2, s2, j2, n2, l2⟩ := HO2.out
  have HR := Lib.hid (room_any w2 bj b 4 8 0 j2 (by omega) (by omega))
  have HN15 := Lib.hid (need_any 15 (by decide) (by decide) w2)
  have HN16 := Lib.hid (need_any 16 (by decide) (by decide) w2)
  have er : ((room 8 : Nat) : Int) = 6 := by rfl
  have e15 : needI 15 = 16 := by rfl
  have e16 : needI 16 = 18 := by rfl
  rw [er] at HR
  rw [e15] at HN15
  rw [e16] at HN16
  have HO2' := HO2
  clear d2 s2 j2 n2 l2 er e15 e16 HO2
  go_wp2_with fail
  refine HR.out.mono ?_
  rintro e w' ⟨rfl, rfl⟩
  go_wp2_with fail
  refine HN15.out.mono ?_
  rintro e w' ⟨rfl, rfl⟩
  go_wp2_with fail
  refine HN16.out.mono ?_
  rintro e w' ⟨rfl, rfl⟩
  go_wp2_with fail
  refine (patch_any 2 5 (by decide) w2).mono ?_
  rintro e w3 ⟨g3, rfl, hg3, hB3, hb3⟩
  have Hb3 := Lib.hid (Hb2.out.trans (hb3.mono Hb2.out.size))
  have HB3 := Lib.hid hB3
  obtain ⟨S2, d2, s2, j2, n2, l2⟩ := HO2'.out
  have hb4 : Below w3.heap.size w3 (w3.alloc (.cells #[.int .i64 2, .slice (some ⟨g3, 0, none⟩) 64 64, .int .u16 5] 49)) := (Below.refl _ _).alloc (Nat.le_refl _) _
  have hn3 : ¬ S2 g3 := fun h => by have := d2.lt h; omega
  have hn4 : ¬ S2 w3.heap.size := fun h => by have := d2.lt h; have := hb3.size; omega
  have D4 := Lib.hid ((d2.below hb3).below hb4)
  have J4 := Lib.hid ((hb4.block bj (by have := j2.lt; have := hb3.size; omega)).trans ((hb3.block bj j2.lt).trans j2))
  have hP3 : Pats (w3.alloc (.cells #[.int .i64 2, .slice (some ⟨g3, 0, none⟩) 64 64, .int .u16 5] 49)) (fun i => ¬ S2 i ∧ i < (w3.alloc (.cells #[.int .i64 2, .slice (some ⟨g3, 0, none⟩) 64 64, .int .u16 5] 49)).heap.size) (some ⟨w3.heap.size, 0, none⟩) (ints [(2, cx 5)]) :=
    pats_one w3 _ g3 64 2 (cx 5) ⟨hn4, by simp⟩ ⟨hn3, by have := hB3.lt; simp; omega⟩ hB3.lt (Nat.le_refl _) (fun i u hu => by
      rw [Nat.zero_add, hB3.cell, ← cx_bytes 5 (by decide)]; exact hu)
  have HP3 := Lib.hid hP3
  have N2 := Lib.hid n2
  have S2' := Lib.hid s2
  have L2 := Lib.hid l2
  have Hb4 := Lib.hid (Hb3.out.alloc Hb3.out.size (.cells #[.int .i64 2, .slice (some ⟨g3, 0, none⟩) 64 64, .int .u16 5] 49))
  clear hg3 hB3 hb3 HR HN15 HN16 hP3 hn3 hn4 d2 s2 j2 n2 l2 hb4
  go_wp2_with fail
  refine (commit_good (l := [(2, cx 5)]) J4.out D4.out N2.out (by omega) (by omega) (by omega) (by omega) w3.heap.size 0 HP3.out (fun t ht => ht) 1 1 rfl (by omega) (by omega) (by decide) (by decide) (by decide) (by decide)).mono ?_
  rintro e w5 ⟨rfl, hT5⟩
  rw [show ((Dk.fresh 20 zx).opened 4 0 []).2.commit 4 0 [(2, cx 5)] = z1 from rfl] at hT5 ⊢
  rw [z1_e, if_pos rfl] at hT5
  rw [z1_e]
  obtain ⟨hO5, hb5, _⟩ := Ours.jturn D4.out J4.out S2'.out L2.out (by have := Hb4.out.size; omega) hT5
  have HO5 := Lib.hid hO5
  have Hb5 := Lib.hid (Hb4.out.trans hb5)
  clear hO5 hb5 hT5 HP3 N2 S2' L2 J4 D4 HO2'
  obtain ⟨S5, d5, s5, j5, n5, l5⟩ := HO5.out
  have HRd := Lib.hid (jread_any w5 S5 b z1.2 d5 2 (cx 5) z1_now z1_dead)
  clear d5 s5 j5 n5 l5
  go_wp2_with fail
  refine HRd.out.mono ?_
  rintro e w6 ⟨rfl, hr6, hlt6, hb6⟩
  have HO6 := Lib.hid (HO5.out.below hb6)
  have Hb6 := Lib.hid (Hb5.out.trans (hb6.mono Hb5.out.size))
  have HR6 := Lib.hid hr6
  have Hlt6 := Lib.hid hlt6
  clear hr6 hlt6 hb6 HRd
  obtain ⟨gr, hgr⟩ : ∃ gr, gr = w5.heap.size := ⟨_, rfl⟩
  rw [← hgr] at HR6 Hlt6 ⊢
  clear hgr
  have hcv : ∀ W, Below w6.heap.size w6 W → (convert 39 9 (.slice (some ⟨gr, 0, none⟩) 64 64)).run Try.prog W = .ok (.string (strS 5)) W := fun W hW =>
    str_of (B := w6.heap.size) (l := (cx 5).b) (cx 5).hb (.inr ⟨gr, 0, rfl, Hlt6.out, fun j u hu => (hW.cell (p := ⟨gr, 0 + j, none⟩) Hlt6.out).trans (HR6.out j u hu)⟩)
  have hcv0 := hcv w6.drew (Below.refl _ _).drew
  have Hcv := Lib.hid hcv
  clear hcv
  obtain ⟨S6, d6, s6, j6, n6, l6⟩ := HO6.out
  have D6 := Lib.hid (fun W (hW : Below w6.heap.size w6 W) => done_any W S6 b z1.2 (d6.below hW))
  have J6 := Lib.hid (fun W (hW : Below w6.heap.size w6 W) => seq_any W bj b 4 8 1 ((hW.block bj j6.lt).trans j6))
  clear d6 s6 j6 n6 l6
  rw [z1_done] at D6
  have hss := strS_same 5
  generalize hst : strS 5 = str5 at *
  have Hst := Lib.hid hst
  clear hst
  go_wp2_with fail
  go_region_with (first
    | (go_at_call 23; (refine (D6.out _ (Below.refl _ _).drew).mono ?_); rintro e w' ⟨rfl, rfl⟩)
    | (go_at_call 24; (refine (J6.out _ (Below.refl _ _).drew).mono ?_); rintro e w' ⟨rfl, rfl⟩)
    | (go_at_call 20; (refine (patch_any 2 5 (by decide) _).mono ?_); rintro e w7 ⟨g7, rfl, hg7, hB7, hb7⟩; have hc7 := Hcv.out w7 ((Below.refl _ w6).drew.trans hb7); have hc8 := conv_any hB7 (by decide); rw [Hst.out] at hc8; have hfd := run_field49 2 (.slice (some ⟨g7, 0, none⟩) 64 64) 5 w7 ⟨_, _, _, rfl⟩))
  all_goals go_wp2
  all_goals go_ret
  all_goals exact ⟨by first | rfl | (rw [hss]; rfl), Hb6.out.trans (((Below.refl _ w6).drew.trans hb7).mono Hb6.out.size)⟩
end Go.Proofs.Ytnkpmmijdkcdjaa
