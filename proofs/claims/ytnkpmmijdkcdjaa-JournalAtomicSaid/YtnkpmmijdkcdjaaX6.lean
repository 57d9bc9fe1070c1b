/-
  Patches that are stored are loaded.
-/
import Derived.Test.YtnkpmmijdkcdjaaX5
import Derived.WalkMore
namespace Go.Proofs.Ytnkpmmijdkcdjaa
open Go.RowKit
attribute [local go_sem ↓] Go.wp_at_zero Go.wp_at_succ

/-- Patch i of those that are stored. -/
def LoadsOne (N : List Sx) (start i : Nat) (p : Nat × Sx) : Prop :=
  ∃ cl cb, N[start + 1 + i / 15 * 16]? = some cl ∧ N[start + 1 + i / 15 * 16 + 1 + i % 15]? = some cb ∧ le ((cl.b.drop (2 * (i % 15) * 2)).take 2) = p.1 ∧ le ((cl.b.drop ((2 * (i % 15) + 1) * 2)).take 2) = p.2.t ∧ cb.b = p.2.b
def Loads (N : List Sx) (start : Nat) (l : List (Nat × Sx)) : Prop := ∀ i p, l[i]? = some p → LoadsOne N start i p

section
variable {w : World} {S T : Nat → Prop} {bj b start n seq : Nat} {k : Dk Sx}

/-- There is room for a journal. -/
theorem misplaced_any (hD : IsDisk sx w S b k) (hn3 : 3 ≤ n) (hn : n ≤ 4096) (hl : k.safe.length ≤ 4096) (hs : start + n ≤ k.safe.length) :
    Calls Try.prog 27 #[.pointer (some ⟨b, 0, none⟩), .int .i64 (start : Int), .int .i64 (n : Int)] w fun e w' => e = .returned (.int .i64 0) ∧ w = w' := by
  have HD := Lib.hid hD
  obtain ⟨m, hm⟩ : ∃ m, m = k.safe.length := ⟨_, rfl⟩
  rw [← hm] at hl hs
  have Hm := Lib.hid hm
  have h1 : ¬ (m : Int) - (n : Int) < (start : Int) := by omega
  clear hD hm
  go_enter Try.func27, Try.ntmps27
  go_wp2_with (go_at_call 37; refine (len_any _ S b k HD.out).mono ?_; rintro e w' ⟨rfl, rfl⟩; rw [← Hm.out])
  go_ret
  exact ⟨rfl, rfl⟩
theorem misplaced_nil (w : World) (s n : Int) : Calls Try.prog 27 #[.pointer none, .int .i64 s, .int .i64 n] w fun e w' => e = .returned (.int .i64 2) ∧ w = w' := by
  go_enter Try.func27, Try.ntmps27
  go_wp2
  go_ret
  exact ⟨rfl, rfl⟩

set_option maxRecDepth 100000 in
set_option maxHeartbeats 1600000 in
theorem loadOne_any (hJ : JB w bj b start n seq) (hD : IsDisk sx w S b k) (hd : k.dead = false) (hs : start ≤ 4096) (i : Nat) (hi : i ≤ 100000) (p : Nat × Sx) (hL : LoadsOne k.now start i p) (hp : p.1 < 65536) :
    Calls Try.prog 41 #[.pointer (some ⟨bj, 0, none⟩), .int .i64 (i : Int)] w fun e w' => ∃ g, e = .returned (.tuple #[.agg #[.int .i64 (p.1 : Int), .slice (some ⟨g, 0, none⟩) 64 64, .int .u16 (p.2.t : Int)], .int .i64 0]) ∧
      w.heap.size ≤ g ∧ g < w'.heap.size ∧ w'.rangeAt g 0 (bytesV p.2.b) ∧ Below w.heap.size w w' := by
  have hJa := (Bk.below hJ ((Below.refl w.heap.size w).alloc (Nat.le_refl _) (.cells #[.int .i64 0, .slice none 0 0, .int .u16 0] 49)) hJ.lt)
  obtain ⟨cl, cb, h1, h2, h3, h4, h5⟩ := hL
  obtain ⟨s, x⟩ := p
  simp only at h3 h4 h5 hp ⊢
  obtain ⟨kk, hkk⟩ : ∃ kk, kk = i % 15 := ⟨_, rfl⟩
  obtain ⟨gg, hgg⟩ : ∃ gg, gg = i / 15 := ⟨_, rfl⟩
  rw [← hkk] at h2 h3 h4
  rw [← hgg] at h1 h2
  obtain ⟨at_, hat⟩ : ∃ at_, at_ = start + 1 + gg * 16 := ⟨_, rfl⟩
  have q1 : (i : Int) / 15 = (gg : Int) := by omega
  have q2 : (i : Int) % 15 = (kk : Int) := by omega
  have q3 : (start : Int) + 1 + (gg : Int) * 16 = (at_ : Int) := by omega
  have q4 : kk < 15 := by omega
  rw [← hat] at h1 h2
  have q5 : at_ ≤ 200000 := by omega
  obtain ⟨at2, hat2⟩ : ∃ at2, at2 = at_ + 1 + kk := ⟨_, rfl⟩
  have q6 : (at_ : Int) + 1 + (kk : Int) = (at2 : Int) := by omega
  rw [← hat2] at h2
  have hxt := x.ht
  obtain ⟨t, ht⟩ : ∃ t, t = x.t := ⟨_, rfl⟩
  rw [← ht] at h4 hxt
  have Hat := Lib.hid hat2
  clear hkk hgg hat hat2
  have c0 := hJa.cell 0
  have c1 := hJa.cell 1
  have Hlt := Lib.hid hJ.lt
  have hb0 : Below w.heap.size w (w.alloc (.cells #[.int .i64 0, .slice none 0 0, .int .u16 0] 49)) := (Below.refl _ _).alloc (Nat.le_refl _) _
  have HDa := Lib.hid (hD.below hb0)
  have HJa := Lib.hid hJa
  have Hb0 := Lib.hid hb0
  have hB := Bk.new w 49 [.int .i64 0, .slice none 0 0, .int .u16 0]
  have HB := Lib.hid hB
  have H1 := Lib.hid h1
  have H2 := Lib.hid h2
  have H3 := Lib.hid h3
  have H4 := Lib.hid h4
  have H5 := Lib.hid h5
  have Hd := Lib.hid hd
  clear hJ hD hd hJa hb0 hB h1 h2 h3 h4 h5
  have q2' : (i : Int).tmod 15 = (kk : Int) := by rw [Int.tmod_eq_emod_of_nonneg (by omega)]; exact q2
  go_enter Try.func41, Try.ntmps41
  go_wp2_with fail
  refine (jread_any _ S b k HDa.out at_ cl H1.out Hd.out).mono ?_
  rintro e w1 ⟨rfl, hr1, hlt1, hb1⟩
  have hsz : (w.alloc (.cells #[.int .i64 0, .slice none 0 0, .int .u16 0] 49)).heap.size = w.heap.size + 1 := by simp
  have ltj : bj < (w.alloc (.cells #[.int .i64 0, .slice none 0 0, .int .u16 0] 49)).heap.size := by have := Hlt.out; omega
  have d0 := (hb1.cell (p := ⟨bj, 0, none⟩) ltj).trans c0
  have HD1 := Lib.hid (HDa.out.below hb1)
  have HB1 : Hid (Bk w1 w.heap.size 49 [.int .i64 0, .slice none 0 0, .int .u16 0]) := (hb1.block w.heap.size (by rw [hsz]; omega)).trans HB.out
  have HR1 : Hid (Rd w1 w1.heap.size (some ⟨w.heap.size + 1, 0, none⟩) (bytesV cl.b)) := .inr ⟨w.heap.size + 1, 0, rfl, by rw [← hsz]; exact hlt1, fun j u hu => by rw [← hsz]; exact hr1 j u hu⟩
  have Hb1 := Lib.hid (Hb0.out.trans (hb1.mono Hb0.out.size))
  have hw1 : w.heap.size + 1 < w1.heap.size := by rw [← hsz]; exact hlt1
  have Hw1 := Lib.hid hw1
  clear hr1 hlt1 hb1 c0 c1 ltj hw1
  go_wp2_with fail
  refine (jread_any w1 S b k HD1.out at2 cb H2.out Hd.out).mono ?_
  rintro e w2 ⟨rfl, hr2, hlt2, hb2⟩
  have HB2 : Hid (Bk w2 w.heap.size 49 [.int .i64 0, .slice none 0 0, .int .u16 0]) := (hb2.block w.heap.size (by have := Hw1.out; omega)).trans HB1.out
  have HR2 := Lib.hid ((HR1.out.below hb2).more hb2.size)
  have Hr2 := Lib.hid hr2
  have Hb2 := Lib.hid (Hb1.out.trans (hb2.mono Hb1.out.size))
  have Hlt2 := Lib.hid hlt2
  have g1 := get_ok cl.b (some ⟨w.heap.size + 1, 0, none⟩) 64 64 w2.heap.size (2 * kk * 2) 2 w2 cl.hb HR2.out (by omega) (by omega) (by omega) (by omega) (by omega)
  have g2 := get_ok cl.b (some ⟨w.heap.size + 1, 0, none⟩) 64 64 w2.heap.size ((2 * kk + 1) * 2) 2 w2 cl.hb HR2.out (by omega) (by omega) (by omega) (by omega) (by omega)
  rw [H3.out, show ((2 * kk * 2 : Nat) : Int) = 2 * (kk : Int) * 2 by omega] at g1
  rw [H4.out, show (((2 * kk + 1) * 2 : Nat) : Int) = (2 * (kk : Int) + 1) * 2 by omega] at g2
  have G1 := Lib.hid g1
  have G2 := Lib.hid g2
  have b0 := HB2.out.cell 0
  have b1 := HB2.out.cell 1
  have b2 := HB2.out.cell 2
  have f0 := HB2.out.frozen 0
  have f1 := HB2.out.frozen 1
  have f2 := HB2.out.frozen 2
  have e1 : IntKind.i64.wrap (s : Int) = (s : Int) := by rw [IntKind.wrap_i64]; omega
  have e2 : IntKind.u16.wrap (t : Int) = (t : Int) := by rw [IntKind.wrap_u16]; omega
  clear hr2 hlt2 hb2 g1 g2 d0
  go_wp2_with fail
  refine G1.out.mono ?_
  rintro e w' ⟨rfl, rfl⟩
  go_wp2_with fail
  refine G2.out.mono ?_
  rintro e w' ⟨rfl, rfl⟩
  go_wp2_with fail
  refine bodyPost_ret (v := .tuple #[.agg #[.int .i64 (s : Int), .slice (some ⟨w1.heap.size, 0, none⟩) 64 64, .int .u16 (x.t : Int)], .int .i64 0]) (by simp [results, Try.results41, go_sem, b0, b1, b2]) rfl ⟨w1.heap.size, rfl, by have := Hw1.out; omega, by simp; exact Hlt2.out, ?_, ?_⟩
  · rw [← H5.out]
    have hg : w1.heap.size ≠ w.heap.size := by have := Hw1.out; omega
    refine range_of_block Hr2.out ?_
    exact ((Below.heap_setCell _ _ _ _ hg).trans (Below.heap_setCell _ _ _ _ hg)).trans (Below.heap_setCell _ _ _ _ hg)
  · exact ((Hb2.out.setCell (p := ⟨w.heap.size, 0, none⟩) (Nat.le_refl _) _).setCell (p := ⟨w.heap.size, 1, none⟩) (Nat.le_refl _) _).setCell (p := ⟨w.heap.size, 2, none⟩) (Nat.le_refl _) _

/-- What is loaded so far. -/
def Got (w : World) (n₀ gl j : Nat) (l : List (Nat × Sx)) : Prop :=
  ∃ cs : List Value, Bk w gl 49 cs ∧ cs.length = l.length * 3 ∧ ∀ (i : Nat) (p : Nat × Sx), i < j → l[i]? = some p → ∃ ba, n₀ ≤ ba ∧ ba ≠ gl ∧ ba < w.heap.size ∧ cs[i * 3]? = some (.int .i64 (p.1 : Int)) ∧ cs[i * 3 + 1]? = some (.slice (some ⟨ba, 0, none⟩) 64 64) ∧ cs[i * 3 + 2]? = some (.int .u16 (p.2.t : Int)) ∧ w.rangeAt ba 0 (bytesV p.2.b)
theorem Got.below {w w' : World} {n₀ gl j : Nat} {l : List (Nat × Sx)} (h : Got w n₀ gl j l) (hb : Below w.heap.size w w') : Got w' n₀ gl j l := by
  obtain ⟨cs, h1, h2, h3⟩ := h
  exact ⟨cs, (hb.block gl h1.lt).trans h1, h2, fun i p hi hp => by
    obtain ⟨ba, e1, e2, e3, e4, e5, e6, e7⟩ := h3 i p hi hp
    exact ⟨ba, e1, e2, Nat.lt_of_lt_of_le e3 hb.size, e4, e5, e6, range_of_block e7 (hb.block ba e3)⟩⟩
theorem Got.set {w : World} {n₀ gl j : Nat} {l : List (Nat × Sx)} (h : Got w n₀ gl j l) (p : Nat × Sx) (hp : l[j]? = some p) (ba : Nat) (h1 : n₀ ≤ ba) (h2 : ba ≠ gl) (h3 : ba < w.heap.size) (h4 : w.rangeAt ba 0 (bytesV p.2.b)) :
    Got (((w.setCell ⟨gl, j * 3, none⟩ (.int .i64 (p.1 : Int))).setCell ⟨gl, j * 3 + 1, none⟩ (.slice (some ⟨ba, 0, none⟩) 64 64)).setCell ⟨gl, j * 3 + 2, none⟩ (.int .u16 (p.2.t : Int))) n₀ gl (j + 1) l := by
  obtain ⟨cs, e1, e2, e3⟩ := h
  have hj := (List.getElem?_eq_some_iff.1 hp).1
  have hkeep : ∀ b, b ≠ gl → (((w.setCell ⟨gl, j * 3, none⟩ (.int .i64 (p.1 : Int))).setCell ⟨gl, j * 3 + 1, none⟩ (.slice (some ⟨ba, 0, none⟩) 64 64)).setCell ⟨gl, j * 3 + 2, none⟩ (.int .u16 (p.2.t : Int))).heap[b]? = w.heap[b]? := fun b hb =>
    ((Below.heap_setCell _ _ _ _ hb).trans (Below.heap_setCell _ _ _ _ hb)).trans (Below.heap_setCell _ _ _ _ hb)
  refine ⟨_, ((e1.set (j * 3) _).set (j * 3 + 1) _).set (j * 3 + 2) _, by simpa using e2, fun i q hi hq => ?_⟩
  by_cases hij : i = j
  · subst hij
    rw [hp] at hq
    cases hq
    refine ⟨ba, h1, h2, by simpa using h3, ?_, ?_, ?_, range_of_block h4 (hkeep ba h2)⟩
    · rw [List.getElem?_set, if_neg (by omega), List.getElem?_set, if_neg (by omega), List.getElem?_set, if_pos rfl, if_pos (by omega)]
    · rw [List.getElem?_set, if_neg (by omega), List.getElem?_set, if_pos rfl, if_pos (by simp; omega)]
    · rw [List.getElem?_set, if_pos rfl, if_pos (by simp; omega)]
  · obtain ⟨b2, f1, f2, f3, f4, f5, f6, f7⟩ := e3 i q (by omega) hq
    refine ⟨b2, f1, f2, by simpa using f3, ?_, ?_, ?_, range_of_block f7 (hkeep b2 f2)⟩
    · rw [List.getElem?_set, if_neg (by omega), List.getElem?_set, if_neg (by omega), List.getElem?_set, if_neg (by omega)]; exact f4
    · rw [List.getElem?_set, if_neg (by omega), List.getElem?_set, if_neg (by omega), List.getElem?_set, if_neg (by omega)]; exact f5
    · rw [List.getElem?_set, if_neg (by omega), List.getElem?_set, if_neg (by omega), List.getElem?_set, if_neg (by omega)]; exact f6
theorem Got.pats {w : World} {n₀ gl : Nat} {l : List (Nat × Sx)} (h : Got w n₀ gl l.length l) (hg : n₀ ≤ gl) : Pats w (fun i => n₀ ≤ i) (some ⟨gl, 0, none⟩) (ints l) := fun i p hp => by
  rw [ints, List.getElem?_map, Option.map_eq_some_iff] at hp
  obtain ⟨q, hq, rfl⟩ := hp
  obtain ⟨cs, e1, e2, e3⟩ := h
  obtain ⟨ba, f1, f2, f3, f4, f5, f6, f7⟩ := e3 i q (List.getElem?_eq_some_iff.1 hq).1 hq
  exact ⟨gl, 0, ba, 0, 64, rfl, hg, f1, e1.lt, f3, Nat.le_refl _, by rw [Nat.zero_add, e1.cell]; exact f4, by rw [Nat.zero_add, e1.cell]; exact f5, by rw [Nat.zero_add, e1.cell]; exact f6, f7⟩

theorem info49' : (Try.prog.info? 49).map (fun i => (i.zero, i.size, i.bytes)) = some (some (.agg #[.int .i64 0, .slice none 0 0, .int .u16 0]), 3, 40) := by kernel_rfl
theorem make_pats (n : Nat) (h : n ≤ 65536) (u : World) : ∃ cs : List Value, cs.length = n * 3 ∧ (Instr.makeSlice 45 (.int .i64 (n : Int)) (.int .i64 (n : Int))).run Try.prog u =
    .ok (.slice (some ⟨u.heap.size, 0, none⟩) n n) (u.alloc (.cells cs.toArray 49)) := by
  obtain ⟨i0, hi, hz0, hz1, hz2⟩ := info_parts info49'
  have hr := run_make (P := Try.prog) u 45 49 i0 _ Try.underlying45 hi hz0 .i64 .i64 (n : Int) (n : Int) (by omega) (Int.le_refl _) (by rw [hz2]; omega) (by omega)
  refine ⟨(madeCells (Value.agg #[.int .i64 0, .slice none 0 0, .int .u16 0]).cells (n * i0.size)).toList, by simp [madeCells, hz1], ?_⟩
  simp only [Int.toNat_natCast] at hr
  rw [hr]

set_option maxRecDepth 100000 in
set_option maxHeartbeats 3200000 in
theorem jload_any (hJ : JB w bj b start n seq) (hD : IsDisk sx w S b k) (hd : k.dead = false) (hs : start ≤ 4096) (hn : n ≤ 4096) (l : List (Nat × Sx)) (m : Nat) (hm : l.length = m) (hmm : m ≤ 4096) (hL : Loads k.now start l) (hp : ∀ p ∈ l, p.1 < 65536 ∧ takesB k.safe.length start n (p.1 : Int) = true) :
    Calls Try.prog 29 #[.pointer (some ⟨bj, 0, none⟩), .int .i64 (m : Int)] w fun e w' => ∃ g, e = .returned (.tuple #[.slice (some ⟨g, 0, none⟩) m m, .int .i64 0]) ∧ Pats w' (fun i => w.heap.size ≤ i) (some ⟨g, 0, none⟩) (ints l) ∧ Below w.heap.size w w' := by
  have Hlt := Lib.hid hJ.lt
  have H1 := Lib.hid (fun W (hW : Below w.heap.size w W) (i : Nat) (hi : i ≤ 100000) p hp' hq => loadOne_any (i := i) (p := p) (hJ.below hW hJ.lt) (hD.below hW) hd hs hi hp' hq)
  have H2 := Lib.hid (fun W (hW : Below w.heap.size w W) (s : Int) => takes_any W S bj b start n seq k (hJ.below hW hJ.lt) (hD.below hW) hs hn s)
  have HL := Lib.hid hL
  have Hp := Lib.hid hp
  have Hm := Lib.hid hm
  clear hJ hD hd hL hp hm
  obtain ⟨cs, hcl, hmk⟩ := make_pats m (by omega) w
  go_enter Try.func29, Try.ntmps29
  have hb0 : Below w.heap.size w (w.alloc (.cells cs.toArray 49)) := (Below.refl _ _).alloc (Nat.le_refl _) _
  have Hb0 := Lib.hid hb0
  have HG0 : Hid (Got (w.alloc (.cells cs.toArray 49)) w.heap.size w.heap.size 0 l) := ⟨cs, Bk.new w 49 cs, by rw [hcl, Hm.out], fun i p hi _ => absurd hi (Nat.not_lt_zero _)⟩
  clear hb0 hcl
  go_wp2
  go_step3
  go_wp2
  go_loopw [6, 8, 13] (fun _ _ i wr => ∃ j : Nat, j ≤ m ∧ i = .int .i64 (j : Int) ∧ Got wr w.heap.size w.heap.size j l ∧ Below w.heap.size w wr ∧ w.heap.size < wr.heap.size) (fun _ _ i _ => m - (intOf i).toNat)
  case atStart => exact ⟨0, Nat.zero_le _, rfl, HG0.out, Hb0.out, by simp⟩
  case round =>
    obtain ⟨j, hj, rfl, hG, hB, hlt0⟩ := hrel
    have HG := Lib.hid hG
    have HB := Lib.hid hB
    clear hG hB
    by_cases hlt : j < m
    · obtain ⟨p, hp⟩ : ∃ p, l[j]? = some p := ⟨_, List.getElem?_eq_getElem (by rw [Hm.out]; exact hlt)⟩
      have Hpj := Lib.hid hp
      have hpv := Hp.out p (List.mem_of_getElem? hp)
      have h1 := H1.out wr HB.out j (by omega) p (HL.out j p hp) hpv.1
      have htk := Lib.hid hpv.2
      have Hlt0 := Lib.hid hlt0
      have hnext := Lib.hid (fun W ba (hW : Got W w.heap.size w.heap.size j l) => hW.set p hp ba)
      obtain ⟨s, x⟩ := p
      simp only at h1 htk hnext
      obtain ⟨t, ht⟩ : ∃ t : Int, t = x.t := ⟨_, rfl⟩
      rw [← ht] at h1 hnext
      have H1' := Lib.hid h1
      clear hp hpv h1 hlt0 ht
      go_wp2_with fail
      refine H1'.out.mono ?_
      rintro e w1 ⟨ba, rfl, hba1, hba2, hr, hb1⟩
      have hne : ba ≠ w.heap.size := by have := Hlt0.out; omega
      obtain ⟨cs1, f1, f2, f3⟩ := HG.out.below hb1
      have HG1 := Lib.hid (HG.out.below hb1)
      have hjl : j * 3 + 2 < cs1.length := by rw [f2, Hm.out]; omega
      have z0 : ∃ u, w1.cell? ⟨w.heap.size, j * 3, none⟩ = some u := ⟨_, (f1.cell (j * 3)).trans (List.getElem?_eq_getElem (by omega))⟩
      have z1 : ∃ u, w1.cell? ⟨w.heap.size, j * 3 + 1, none⟩ = some u := ⟨_, (f1.cell (j * 3 + 1)).trans (List.getElem?_eq_getElem (by omega))⟩
      have z2 : ∃ u, w1.cell? ⟨w.heap.size, j * 3 + 2, none⟩ = some u := ⟨_, (f1.cell (j * 3 + 2)).trans (List.getElem?_eq_getElem (by omega))⟩
      obtain ⟨u0, z0⟩ := z0
      obtain ⟨u1, z1⟩ := z1
      obtain ⟨u2, z2⟩ := z2
      have fz0 := f1.frozen (j * 3)
      have fz1 := f1.frozen (j * 3 + 1)
      have fz2 := f1.frozen (j * 3 + 2)
      have hgot := hnext.out w1 ba HG1.out (by have := HB.out.size; omega) hne hba2 hr
      have HB1 := Lib.hid ((((HB.out.trans (hb1.mono HB.out.size)).setCell (p := ⟨w.heap.size, j * 3, none⟩) (Nat.le_refl _) (.int .i64 (s : Int))).setCell (p := ⟨w.heap.size, j * 3 + 1, none⟩) (Nat.le_refl _) (.slice (some ⟨ba, 0, none⟩) 64 64)).setCell (p := ⟨w.heap.size, j * 3 + 2, none⟩) (Nat.le_refl _) (.int .u16 t))
      have HG2 := Lib.hid hgot
      have hc3 : (((w1.setCell ⟨w.heap.size, j * 3, none⟩ (.int .i64 (s : Int))).setCell ⟨w.heap.size, j * 3 + 1, none⟩ (.slice (some ⟨ba, 0, none⟩) 64 64)).setCell ⟨w.heap.size, j * 3 + 2, none⟩ (.int .u16 t)).cell? ⟨w.heap.size, j * 3, none⟩ = some (.int .i64 (s : Int)) := by
        rw [(((f1.set (j * 3) _).set (j * 3 + 1) _).set (j * 3 + 2) _).cell, List.getElem?_set, if_neg (by omega), List.getElem?_set, if_neg (by omega), List.getElem?_set, if_pos rfl, if_pos (by omega)]
      have hsz3 : w.heap.size < w1.heap.size := Nat.lt_of_lt_of_le Hlt0.out hb1.size
      clear f1 f2 f3 hjl hr hb1 hgot hba1 hba2 hne
      go_wp2_with fail
      refine (H2.out _ HB1.out (s : Int)).mono ?_
      rintro e w2 ⟨rfl, hb2⟩
      rw [htk.out]
      have HG3 := Lib.hid (HG2.out.below hb2)
      have HB3 := Lib.hid (HB1.out.trans (hb2.mono HB1.out.size))
      have hsz4 : w.heap.size < w2.heap.size := Nat.lt_of_lt_of_le (by simpa using hsz3) hb2.size
      clear hb2
      go_wp2
      go_roundw
      case rel => exact ⟨j + 1, by omega, by go_num, HG3.out, HB3.out, hsz4⟩
      case measure => simp [intOf]; omega
    · obtain rfl : j = m := by omega
      go_wp2
      rw [Exit.noGoto_ret]
      go_ret2
      refine ⟨w.heap.size, rfl, ?_, HB.out⟩
      have h := HG.out
      rw [← Hm.out] at h
      exact h.pats (Nat.le_refl _)
end
end Go.Proofs.Ytnkpmmijdkcdjaa
