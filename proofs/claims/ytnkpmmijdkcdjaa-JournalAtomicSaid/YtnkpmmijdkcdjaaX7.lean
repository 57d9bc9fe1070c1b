/-
  A commit.
-/
import Derived.Test.YtnkpmmijdkcdjaaX6
import Derived.Test.YtnkpmmijdkcdjaaY1
namespace Go.Proofs.Ytnkpmmijdkcdjaa
open Go.RowKit
attribute [local go_sem ↓] Go.wp_at_zero Go.wp_at_succ

/-- Where Commit's failed steps come together. -/
def CFail (v0 v1 : Value) (R : Int → World → Prop) (a : Act) (w : World) : Prop :=
  ∃ (e : Int) (u2 u3 u4 u5 u7 u8 u9 u10 u11 u12 u13 u14 u15 u16 u17 u18 u19 u20 u21 u22 u23 u24 u25 u26 u27 u28 u29 u30 u31 u32 u33 u34 u35 u36 u37 u38 u39 u40 u41 u42 u43 u44 u45 u46 u47 u48 : Value), a = { tmps := #[v0, v1, u2, u3, u4, u5, .int .i64 e, u7, u8, u9, u10, u11, u12, u13, u14, u15, u16, u17, u18, u19, u20, u21, u22, u23, u24, u25, u26, u27, u28, u29, u30, u31, u32, u33, u34, u35, u36, u37, u38, u39, u40, u41, u42, u43, u44, u45, u46, u47, u48], defers := [] } ∧ R e w

/-- What a call makes of a journal. -/
def JTurned (S : Nat → Prop) (w w' : World) (bj b start n seq : Nat) (k : Dk Sx) : Prop :=
  Kept (fun i => S i ∨ i = bj) w w' ∧ ∃ S', IsDisk sx w' S' b k ∧ (∀ i, S' i → S i ∨ w.heap.size ≤ i) ∧ JB w' bj b start n seq ∧ ¬ S' bj

section
variable {w : World} {S T : Nat → Prop} {bj b start n seq : Nat} {k : Dk Sx} {A : Option Addr}

theorem JTurned.same (hJ : JB w bj b start n seq) (hD : IsDisk sx w S b k) (hb : ¬ S bj) {w' : World} (h : Below w.heap.size w w') : JTurned S w w' bj b start n seq k :=
  ⟨Kept.of_below h, S, hD.below h, fun _i hi => .inl hi, (h.block bj hJ.lt).trans hJ, hb⟩
theorem JTurned.of {w' : World} (hJ : JB w bj b start n seq) (hb : ¬ S bj) (h : Turned sx S w w' b k) : JTurned S w w' bj b start n seq k := by
  obtain ⟨hK, S', hD, hS⟩ := h
  exact ⟨⟨hK.os, hK.tape, hK.output, hK.size, fun i hi hs => hK.block i hi fun h => hs (.inl h)⟩, S', hD, hS, (hK.block bj hJ.lt hb).trans hJ, fun hs => by
    rcases hS bj hs with h | h
    · exact hb h
    · have := hJ.lt; omega⟩

theorem commit_nil (w : World) (u : Value) : Calls Try.prog 18 #[.pointer none, u] w fun e w' => e = .returned (.int .i64 2) ∧ w = w' := by
  go_enter Try.func18, Try.ntmps18
  go_wp2
  go_step3
  go_wp2
  rw [Exit.noGoto_ret]
  go_ret
  exact ⟨rfl, rfl⟩
theorem commit_none (w : World) (bj : Nat) (A : Option Addr) (c : Nat) : Calls Try.prog 18 #[.pointer (some ⟨bj, 0, none⟩), .slice A 0 c] w fun e w' => e = .returned (.int .i64 0) ∧ w = w' := by
  go_enter Try.func18, Try.ntmps18
  go_wp2
  go_step3
  go_wp2
  rw [Exit.noGoto_ret]
  go_ret
  exact ⟨rfl, rfl⟩

set_option maxRecDepth 100000 in
set_option maxHeartbeats 1600000 in
theorem commit_bad (hJ : JB w bj b start n seq) (hD : IsDisk sx w S b k) (hs : start ≤ 4096) (hn3 : 3 ≤ n) (hn : n ≤ 4096) (hq : seq < 18446744073709551615) (L : List (Int × Sx)) (hL : Pats w T A L) (m c : Nat) (hm : L.length = m) (h0 : 0 < m) (hmm : m ≤ 100000)
    (hbad : refuseE k.safe.length start n L ≠ 0) :
    Calls Try.prog 18 #[.pointer (some ⟨bj, 0, none⟩), .slice A m c] w fun e w' => e = .returned (.int .i64 (refuseE k.safe.length start n L)) ∧ Below w.heap.size w w' := by
  have hR := refuse_any (w := w.drew) (c := c) (hJ : JB w.drew bj b start n seq) (hD.keep fun _ _ => rfl) hs hn3 hn hq L (hL.keep (Nat.le_refl _) fun _ _ _ => rfl) m hm (by omega)
  have HR := Lib.hid hR
  have c3 := hJ.cell 3
  have Hlt := Lib.hid hJ.lt
  have hwr : IntKind.u64.wrap ((seq : Int) + 1) = ((seq + 1 : Nat) : Int) := by rw [IntKind.wrap_u64]; omega
  obtain ⟨er, her⟩ : ∃ er, er = refuseE k.safe.length start n L := ⟨_, rfl⟩
  rw [← her] at HR hbad ⊢
  have hbb : (er != 0) = true := by simp [hbad]
  have hm0 : ((m : Int) == 0) = false := beq_eq_false_iff_ne.2 (by omega)
  clear hJ hD hL hm hR her
  go_enter Try.func18, Try.ntmps18
  go_wp2
  refine wp_scope_labels 0 0 (fun _ _ => False) (CFail (.pointer (some ⟨bj, 0, none⟩)) (.slice A m c) (fun e w' => e = er ∧ Below w.heap.size w w')) (fun _ _ => 0) rfl rfl ?_ (fun _ _ h => h.elim) ?_
  · go_wp2
    go_region_held3 (fun w' : World => w'.cell? ⟨bj, 3, none⟩ = some (.int .u64 (seq : Int)))
      (first | exact c3 | assumption)
      (first | (go_at_call 31; (refine HR.out.mono ?_); rintro e w1 ⟨rfl, hb1⟩; have HB1 := Lib.hid ((Below.refl _ w).drew.trans hb1); have d3 := (hb1.cell (p := ⟨bj, 3, none⟩) Hlt.out).trans c3; clear hb1))
    go_wp2
    go_step3
    exact .inr ⟨rfl, _, _, _, _, _, _, _, _, _, _, _, _, _, _, _, _, _, _, _, _, _, _, _, _, _, _, _, _, _, _, _, _, _, _, _, _, _, _, _, _, _, _, _, _, _, _, _, rfl, rfl, HB1.out⟩
  · rintro a w1 ⟨e, u2, u3, u4, u5, u7, u8, u9, u10, u11, u12, u13, u14, u15, u16, u17, u18, u19, u20, u21, u22, u23, u24, u25, u26, u27, u28, u29, u30, u31, u32, u33, u34, u35, u36, u37, u38, u39, u40, u41, u42, u43, u44, u45, u46, u47, u48, rfl, rfl, hR⟩
    go_wp2
    rw [jumps_ret]
    go_ret
    exact ⟨rfl, hR⟩

/-- On the way through a commit. -/
structure Mid (w0 : World) (S0 T : Nat → Prop) (bj b start n seq : Nat) (A : Option Addr) (l : List (Nat × Sx)) (w : World) (S : Nat → Prop) (k : Dk Sx) : Prop where
  kept : Kept S0 w0 w
  disk : IsDisk sx w S b k
  sub : ∀ i, S i → S0 i ∨ w0.heap.size ≤ i
  jb : JB w bj b start n seq
  pats : Pats w T A (ints l)
  nbj : ¬ S0 bj
  lbj : bj < w0.heap.size
  apart : ∀ t, T t → ¬ S0 t ∧ t < w0.heap.size
section
variable {w0 w w' : World} {S0 S T : Nat → Prop} {bj b start n seq : Nat} {k k' : Dk Sx} {A : Option Addr} {l : List (Nat × Sx)}
theorem Mid.off (h : Mid w0 S0 T bj b start n seq A l w S k) : ¬ S bj := fun hs => by
  rcases h.sub bj hs with h1 | h1
  · exact h.nbj h1
  · have := h.lbj; omega
theorem Mid.clear (h : Mid w0 S0 T bj b start n seq A l w S k) : ∀ t, T t → ¬ S t := fun t ht hs => by
  rcases h.sub t hs with h1 | h1
  · exact (h.apart t ht).1 h1
  · have := (h.apart t ht).2; omega
theorem Mid.below (h : Mid w0 S0 T bj b start n seq A l w S k) (hb : Below w.heap.size w w') : Mid w0 S0 T bj b start n seq A l w' S k :=
  ⟨h.kept.trans (Kept.of_below (S := S0) hb) fun _i hi => .inl hi, h.disk.below hb, h.sub, (hb.block bj h.jb.lt).trans h.jb, h.pats.below hb, h.nbj, h.lbj, h.apart⟩
theorem Mid.turn (h : Mid w0 S0 T bj b start n seq A l w S k) (ht : Turned sx S w w' b k') : ∃ S', Mid w0 S0 T bj b start n seq A l w' S' k' := by
  obtain ⟨hK, S', hD, hS⟩ := ht
  refine ⟨S', h.kept.trans hK h.sub, hD, fun i hi => ?_, (hK.block bj h.jb.lt h.off).trans h.jb, h.pats.keep hK.size fun i hi hlt => hK.block i hlt (h.clear i hi), h.nbj, h.lbj, h.apart⟩
  rcases hS i hi with h1 | h1
  · exact h.sub i h1
  · exact .inr (Nat.le_trans h.kept.size h1)
theorem Mid.done (h : Mid w0 S0 T bj b start n seq A l w S k) : JTurned S0 w0 w bj b start n seq k :=
  ⟨⟨h.kept.os, h.kept.tape, h.kept.output, h.kept.size, fun i hi hs => h.kept.block i hi fun h1 => hs (.inl h1)⟩, S, h.disk, h.sub, h.jb, h.off⟩
theorem Mid.seqd (h : Mid w0 S0 T bj b start n seq A l w S k) (q : Nat) : JTurned S0 w0 (w.setCell ⟨bj, 3, none⟩ (.int .u64 (q : Int))) bj b start n q k := by
  have hk : ∀ i, i ≠ bj → (w.setCell ⟨bj, 3, none⟩ (.int .u64 (q : Int))).heap[i]? = w.heap[i]? := fun i hi => Below.heap_setCell w ⟨bj, 3, none⟩ _ i hi
  refine ⟨⟨h.kept.os, h.kept.tape, h.kept.output, by simpa using h.kept.size, fun i hi hs => (hk i fun e => hs (.inr e)).trans (h.kept.block i hi fun h1 => hs (.inl h1))⟩, S, h.disk.keep fun i hi => hk i fun e => h.off (e ▸ hi), h.sub, h.jb.set 3 _, h.off⟩

theorem refuse_ok {m start n : Nat} {l : List (Nat × Sx)} (h : refuseE m start n (ints l) = 0) : l.length ≤ room n ∧ ∀ p ∈ l, takesB m start n (p.1 : Int) = true := by
  unfold refuseE at h
  split at h
  · cases h
  · rename_i h1
    split at h
    · cases h
    · rename_i h2
      refine ⟨by rw [ints, List.length_map] at h1; omega, fun p hp => ?_⟩
      have h3 : anyWrong m start n (ints l) = false := by simpa using h2
      rw [anyWrong, List.any_eq_false] at h3
      have := h3 ((p.1 : Int), p.2) (by rw [ints, List.mem_map]; exact ⟨p, hp, rfl⟩)
      simpa using this
theorem takes_lt {m start n s : Nat} (h : takesB m start n (s : Int) = true) : s < m ∧ (s < start ∨ start + n ≤ s) := by
  simp only [takesB, Bool.and_eq_true, Bool.or_eq_true, decide_eq_true_eq] at h
  omega


theorem commit_1 {x1 : Int} {k1 : Dk Sx} (h1 : k.writes (placed (start + 1) (stored l)) = (x1, k1)) (hx : x1 ≠ 0) : k.commit start seq l = (x1, k1) := by
  unfold Dk.commit; rw [h1]; simp [hx]
theorem commit_2 {x2 : Int} {k1 k2 : Dk Sx} (h1 : k.writes (placed (start + 1) (stored l)) = (0, k1)) (h2 : k1.writes [(start, headS (seq + 1) l.length)] = (x2, k2)) (hx : x2 ≠ 0) : k.commit start seq l = (x2, k2) := by
  unfold Dk.commit Dk.tell; rw [h1]; simp only; rw [h2]; simp [hx]
theorem commit_3 {x3 : Int} {k1 k2 k3 : Dk Sx} (h1 : k.writes (placed (start + 1) (stored l)) = (0, k1)) (h2 : k1.writes [(start, headS (seq + 1) l.length)] = (0, k2)) (h3 : k2.finish start (seq + 1) l = (x3, k3)) : k.commit start seq l = (x3, k3) := by
  unfold Dk.commit Dk.tell; rw [h1]; simp only; rw [h2]; simp [h3]
/-- What a commit ends in. -/
def CRes (S : Nat → Prop) (w : World) (bj b start n seq : Nat) (c : Int × Dk Sx) (v : Int) (w' : World) : Prop := v = c.1 ∧ JTurned S w w' bj b start n (if c.1 = 0 then seq + 1 else seq) c.2
theorem CRes.bad {c : Int × Dk Sx} {v : Int} (hc : c = (v, k)) (hv : v ≠ 0) (h : JTurned S w w' bj b start n seq k) : CRes S w bj b start n seq c v w' := by
  subst hc; exact ⟨rfl, by simpa [hv] using h⟩
theorem CRes.good {c : Int × Dk Sx} (hc : c = (0, k)) (h : JTurned S w w' bj b start n (seq + 1) k) : CRes S w bj b start n seq c 0 w' := by
  subst hc; exact ⟨rfl, by simpa using h⟩

set_option maxRecDepth 100000 in
set_option maxHeartbeats 3200000 in
theorem commit_good (hJ : JB w bj b start n seq) (hD : IsDisk sx w S b k) (hb : ¬ S bj) (hs : start ≤ 4096) (hn3 : 3 ≤ n) (hn : n ≤ 4096) (hq : seq < 18446744073709551615) (b0 o0 : Nat) (hL : Pats w T (some ⟨b0, o0, none⟩) (ints l)) (hT : ∀ t, T t → ¬ S t ∧ t < w.heap.size) (m c : Nat) (hm : l.length = m) (h0 : 0 < m) (hmc : m ≤ c)
    (hok : refuseE k.safe.length start n (ints l) = 0) (hsn : start + n ≤ k.safe.length) (hlen : k.safe.length ≤ 4096) (hun : k.un.length ≤ 100000) :
    Calls Try.prog 18 #[.pointer (some ⟨bj, 0, none⟩), .slice (some ⟨b0, o0, none⟩) m c] w fun e w' => e = .returned (.int .i64 (k.commit start seq l).1) ∧ JTurned S w w' bj b start n (if (k.commit start seq l).1 = 0 then seq + 1 else seq) (k.commit start seq l).2 := by
  obtain ⟨hroom, hval⟩ := refuse_ok hok
  have hm4 : m ≤ 4096 := by unfold room at hroom; omega
  have hR := refuse_any (w := w.drew) (c := c) (hJ : JB w.drew bj b start n seq) (hD.keep fun _ _ => rfl) hs hn3 hn hq (ints l) (hL.keep (Nat.le_refl _) fun _ _ _ => rfl) m (by rw [ints, List.length_map]; exact hm) (by omega)
  rw [hok] at hR
  have HR := Lib.hid hR
  have hM : Mid w S T bj b start n seq (some ⟨b0, o0, none⟩) l w S k := ⟨Kept.refl _ _, hD, fun i hi => .inl hi, hJ, hL, hb, hJ.lt, hT⟩
  have HM := Lib.hid hM
  have c3 := hJ.cell 3
  have Hlt := Lib.hid hJ.lt
  have hwr : IntKind.u64.wrap ((seq : Int) + 1) = ((seq + 1 : Nat) : Int) := by rw [IntKind.wrap_u64]; omega
  have hm0 : ((m : Int) == 0) = false := beq_eq_false_iff_ne.2 (by omega)
  have hst : (stored l).length + 1 ≤ n := by rw [length_stored, hm]; unfold room at hroom; omega
  have Hst := Lib.hid hst
  have Hval : Hid (∀ p ∈ l, p.1 < k.safe.length) := fun p hp => (takes_lt (hval p hp)).1
  have Hpl : Hid (∀ p ∈ placed (start + 1) (stored l), p.1 < k.safe.length) := fun p hp => by have := (placed_mem hp).2.1; omega
  have Hm := Lib.hid hm
  have Hsn := Lib.hid hsn
  have Hun := Lib.hid hun
  have Hlen := Lib.hid hlen
  clear hJ hD hL hm hR hok hroom hval hst hT hb hsn hun hM hlen
  have e1 : (k.writes (placed (start + 1) (stored l))).2.safe.length = k.safe.length := Dk.writes_len _ _
  have e2 : (k.writes (placed (start + 1) (stored l))).2.un.length ≤ 110000 := by have := Dk.writes_un (placed (start + 1) (stored l)) k; rw [length_placed] at this; have := Hst.out; have := Hun.out; omega
  generalize hr1 : k.writes (placed (start + 1) (stored l)) = r1 at *
  obtain ⟨x1, k1⟩ := r1
  have f1 := Dk.writes_len [(start, headS (seq + 1) l.length)] k1
  have f2 := Dk.writes_un [(start, headS (seq + 1) l.length)] k1
  generalize hr2 : k1.writes [(start, headS (seq + 1) l.length)] = r2 at f1 f2
  obtain ⟨x2, k2⟩ := r2
  generalize hr3 : k2.finish start (seq + 1) l = r3
  obtain ⟨x3, k3⟩ := r3
  simp only [List.length_singleton] at e1 e2 f1 f2 ⊢
  have Hr1 := Lib.hid hr1
  have Hr2 := Lib.hid hr2
  have Hr3 := Lib.hid hr3
  have E1 := Lib.hid e1
  have E2 := Lib.hid e2
  have F1 := Lib.hid (f1.trans e1)
  have F2 : Hid (k2.un.length ≤ 110001) := by show _ ≤ _; omega
  generalize hcc : k.commit start seq l = cc
  have Hcc := Lib.hid hcc
  clear hcc
  clear e1 e2 f1 f2 hr1 hr2 hr3
  go_enter Try.func18, Try.ntmps18
  go_wp2
  refine wp_scope_labels 0 0 (fun _ _ => False) (CFail (.pointer (some ⟨bj, 0, none⟩)) (.slice (some ⟨b0, o0, none⟩) m c) (CRes S w bj b start n seq cc)) (fun _ _ => 0) rfl rfl ?_ (fun _ _ h => h.elim) ?_
  · go_wp2
    go_region_held3 (fun w' : World => w'.cell? ⟨bj, 3, none⟩ = some (.int .u64 (seq : Int)))
      (first | exact c3 | assumption)
      (first | (go_at_call 31; (refine HR.out.mono ?_); rintro e w1 ⟨rfl, hb1⟩; have HB1 := Lib.hid ((Below.refl _ w).drew.trans hb1); have d3 := (hb1.cell (p := ⟨bj, 3, none⟩) Hlt.out).trans c3; clear hb1))
    have HM1 := Lib.hid (HM.out.below HB1.out)
    clear c3 d3
    go_wp2_with fail
    refine (stored_any HM1.out.jb HM1.out.pats m c Hm.out h0 (by omega) hmc hs (fun p hp => by have := Hval.out p hp; have := Hlen.out; omega)).mono ?_
    rintro e w2 ⟨gs, cap, rfl, hcap, hP, hb2⟩
    have HM2 := Lib.hid (HM1.out.below hb2)
    have HP := Lib.hid (hP.more (T' := fun i => ¬ S i) fun i _ hi hs => by
      rcases hi with h | h
      · exact (HM.out.apart i h).1 hs
      · have := HM.out.disk.lt hs; have := HM1.out.kept.size; omega)
    obtain ⟨ms, hms⟩ : ∃ ms, ms = (stored l).length := ⟨_, rfl⟩
    rw [← hms] at hcap ⊢
    have Hms : Hid ((placed (start + 1) (stored l)).length = ms) := by show _ = _; rw [length_placed, hms]
    have hms4 : ms ≤ 4096 := by have := Hst.out; omega
    clear hP hb2 hms
    go_wp2_with fail
    refine (jwrite_any HM2.out.jb HM2.out.disk HM2.out.off HP.out (fun t ht => ht) ms cap Hms.out Hpl.out (by have := Hun.out; omega)).mono ?_
    rintro e w3 ⟨rfl, hT3⟩
    rw [Hr1.out] at hT3 ⊢
    obtain ⟨S3, hM3⟩ := HM2.out.turn hT3
    have HM3 := Lib.hid hM3
    clear hM3 hT3
    by_cases h1 : x1 = 0
    · subst h1
      go_wp2_with fail
      refine (head_any w3 bj b start n seq (seq + 1) m HM3.out.jb (by omega) (by omega)).mono ?_
      rintro e w4 ⟨gh, rfl, hP4, hb4⟩
      have HM4 := Lib.hid (HM3.out.below hb4)
      have HP4 := Lib.hid (hP4.more (T' := fun i => ¬ S3 i) fun i _ hi hs => by have hi' : w3.heap.size ≤ i := hi; have := HM3.out.disk.lt hs; omega)
      have Hst4 : Hid (∀ p ∈ [(start, headS (seq + 1) m)], p.1 < k1.safe.length) := fun p hp => by
        simp only [List.mem_singleton] at hp
        subst hp
        rw [E1.out]; have := Hsn.out; show start < _; omega
      clear hP4 hb4
      go_wp2_with fail
      refine (jwrite_any (g := [(start, headS (seq + 1) m)]) HM4.out.jb HM4.out.disk HM4.out.off HP4.out (fun t ht => ht) 1 1 rfl Hst4.out (by have := E2.out; omega)).mono ?_
      rintro e w5 ⟨rfl, hT5⟩
      have hr2' := Hr2.out
      rw [Hm.out] at hr2'
      rw [hr2'] at hT5 ⊢
      obtain ⟨S5, hM5⟩ := HM4.out.turn hT5
      have HM5 := Lib.hid hM5
      clear hM5 hT5 hr2'
      by_cases h2 : x2 = 0
      · subst h2
        go_wp2_with fail
        refine (finish_any (start := start) HM5.out.jb HM5.out.disk HM5.out.off HM5.out.pats HM5.out.clear m c Hm.out (fun p hp => by rw [F1.out]; exact Hval.out p hp) (by rw [F1.out]; have := Hsn.out; omega) (by have := F2.out; omega) (seq + 1) (by omega)).mono ?_
        rintro e w6 ⟨rfl, hT6⟩
        rw [Hr3.out] at hT6 ⊢
        obtain ⟨S6, hM6⟩ := HM5.out.turn hT6
        have HM6 := Lib.hid hM6
        have c6 := hM6.jb.cell 3
        have f6 := hM6.jb.frozen 3
        clear hM6 hT6
        by_cases h3 : x3 = 0
        · subst h3
          go_wp2
          rw [jumps_ret]
          go_ret
          have hfin := CRes.good (Hcc.out.symm.trans (commit_3 Hr1.out Hr2.out Hr3.out)) (HM6.out.seqd (seq + 1))
          exact ⟨by rw [← hfin.1]; rfl, hfin.2⟩
        · have hbb : (x3 != 0) = true := by simp [h3]
          go_wp2
          go_step3
          exact .inr ⟨rfl, _, _, _, _, _, _, _, _, _, _, _, _, _, _, _, _, _, _, _, _, _, _, _, _, _, _, _, _, _, _, _, _, _, _, _, _, _, _, _, _, _, _, _, _, _, _, _, rfl, CRes.bad (Hcc.out.symm.trans (commit_3 Hr1.out Hr2.out Hr3.out)) h3 HM6.out.done⟩
      · have hbb : (x2 != 0) = true := by simp [h2]
        go_wp2
        go_step3
        exact .inr ⟨rfl, _, _, _, _, _, _, _, _, _, _, _, _, _, _, _, _, _, _, _, _, _, _, _, _, _, _, _, _, _, _, _, _, _, _, _, _, _, _, _, _, _, _, _, _, _, _, _, rfl, CRes.bad (Hcc.out.symm.trans (commit_2 Hr1.out Hr2.out h2)) h2 HM5.out.done⟩
    · have hbb : (x1 != 0) = true := by simp [h1]
      go_wp2
      go_step3
      exact .inr ⟨rfl, _, _, _, _, _, _, _, _, _, _, _, _, _, _, _, _, _, _, _, _, _, _, _, _, _, _, _, _, _, _, _, _, _, _, _, _, _, _, _, _, _, _, _, _, _, _, _, rfl, CRes.bad (Hcc.out.symm.trans (commit_1 Hr1.out h1)) h1 HM3.out.done⟩
  · rintro a w1 ⟨e, u2, u3, u4, u5, u7, u8, u9, u10, u11, u12, u13, u14, u15, u16, u17, u18, u19, u20, u21, u22, u23, u24, u25, u26, u27, u28, u29, u30, u31, u32, u33, u34, u35, u36, u37, u38, u39, u40, u41, u42, u43, u44, u45, u46, u47, u48, rfl, hR⟩
    go_wp2
    rw [jumps_ret]
    go_ret
    exact ⟨by rw [hR.1]; rfl, hR.2⟩
end
end
end Go.Proofs.Ytnkpmmijdkcdjaa
