/-
  A head is read.
-/
import Derived.Test.YtcjkbmmjpkghlaaGreatQJrnA
import Derived.WalkMore
namespace Go.Proofs.YtcjkbmmjpkghlaaGreat
open Go.RowKit
attribute [local go_sem ↓] Go.wp_at_zero Go.wp_at_succ

/-- A sector is a head. -/
def IsHead (c : Sx) (q cnt : Nat) : Prop := (c.b = headB q cnt ∧ q < 18446744073709551616 ∧ cnt < 65536) ∨ (c.b = List.replicate 64 0 ∧ q = 0 ∧ cnt = 0)
theorem IsHead.seq {c : Sx} {q cnt : Nat} (h : IsHead c q cnt) : le ((c.b.drop 0).take 8) = q := by
  rcases h with ⟨h1, h2, _⟩ | ⟨h1, h2, _⟩
  · rw [h1, headB_seq q cnt h2]
  · rw [h1, h2]; rfl
theorem IsHead.cnt {c : Sx} {q cnt : Nat} (h : IsHead c q cnt) : le ((c.b.drop 8).take 2) = cnt := by
  rcases h with ⟨h1, _, h2⟩ | ⟨h1, _, h2⟩
  · rw [h1, headB_cnt q cnt h2]
  · rw [h1, h2]; rfl
theorem IsHead.lt {c : Sx} {q cnt : Nat} (h : IsHead c q cnt) : q < 18446744073709551616 ∧ cnt < 65536 := by
  rcases h with ⟨_, h1, h2⟩ | ⟨_, h1, h2⟩
  · exact ⟨h1, h2⟩
  · omega

theorem sx_cells (c : Sx) : sx c = bytesV c.b ++ [.int .u16 (c.t : Int)] := rfl

section
variable {w : World} {S T : Nat → Prop} {bj b start n seq : Nat} {k : Dk Sx}

/-- A sector's bytes. -/
theorem jread_any (w : World) (S : Nat → Prop) (b : Nat) (k : Dk Sx) (h : IsDisk sx w S b k) (s : Nat) (c : Sx) (hc : k.now[s]? = some c) (hd : k.dead = false) :
    Calls Tryz.prog 44 #[.pointer (some ⟨b, 0, none⟩), .int .i64 (s : Int)] w fun e w' => e = .returned (.tuple #[.slice (some ⟨w.heap.size, 0, none⟩) 64 64, .int .i64 0]) ∧ w'.rangeAt w.heap.size 0 (bytesV c.b) ∧ w.heap.size < w'.heap.size ∧ Below w.heap.size w w' := by
  refine (read_any w S b k h s c (bytesV c.b) (.int .u16 (c.t : Int)) hc rfl (by rw [length_bytesV, c.hb]) (bytesV_one _) hd).mono ?_
  rintro e w' ⟨rfl, hB, hb⟩
  exact ⟨rfl, fun j v hj => by rw [Nat.zero_add, hB.cell]; exact hj, hB.lt, hb⟩

set_option maxHeartbeats 1600000 in
theorem readHead_any (hJ : JB w bj b start n seq) (hD : IsDisk sx w S b k) (hn3 : 3 ≤ n) (hn : n ≤ 4096) (hd : k.dead = false) (c : Sx) (hc : k.now[start]? = some c) (q cnt : Nat) (hh : IsHead c q cnt) (hr : cnt ≤ room n) :
    Calls Tryz.prog 119 #[.pointer (some ⟨bj, 0, none⟩)] w fun e w' => e = .returned (.tuple #[.int .u64 (q : Int), .int .i64 (cnt : Int), .int .i64 0]) ∧ Below w.heap.size w w' := by
  have c0 := hJ.cell 0
  have c1 := hJ.cell 1
  have Hlt := Lib.hid hJ.lt
  have HJ := Lib.hid hJ
  have HD := Lib.hid hD
  have Hd := Lib.hid hd
  have Hc := Lib.hid hc
  have Hh := Lib.hid hh
  have Hr := Lib.hid hr
  clear hJ hD hd hc hh hr
  go_enter Tryz.func119, Tryz.ntmps119
  go_wp2
  go_region_held3 (fun w' : World => w'.cell? ⟨bj, 0, none⟩ = some (.pointer (some ⟨b, 0, none⟩)) ∧ w'.cell? ⟨bj, 1, none⟩ = some (.int .i64 (start : Int)))
    (first | exact ⟨c0, c1⟩ | assumption)
    (first | (go_at_call 44; (refine (jread_any w.drew S b k (HD.out.keep fun _ _ => rfl) start c Hc.out Hd.out).mono ?_); rintro e w1 ⟨rfl, hr1, hlt1, hb1⟩; have HR1 := Lib.hid hr1; have Hlt1 := Lib.hid hlt1; have HB1 := Lib.hid ((Below.refl _ w).drew.trans hb1); have d0 := And.intro ((hb1.cell (p := ⟨bj, 0, none⟩) Hlt.out).trans c0) ((hb1.cell (p := ⟨bj, 1, none⟩) Hlt.out).trans c1); clear hr1 hlt1 hb1))
  clear c0 c1
  have hrd : Rd w1 w1.heap.size (some ⟨w.heap.size, 0, none⟩) (bytesV c.b) := .inr ⟨w.heap.size, 0, rfl, Hlt1.out, fun j u hu => HR1.out j u hu⟩
  have hg1 := get_ok c.b (some ⟨w.heap.size, 0, none⟩) 64 64 w1.heap.size 0 8 w1 c.hb hrd (by omega) (by omega) (by omega) (by omega) (by omega)
  have hg2 := get_ok c.b (some ⟨w.heap.size, 0, none⟩) 64 64 w1.heap.size 8 2 w1 c.hb hrd (by omega) (by omega) (by omega) (by omega) (by omega)
  rw [Hh.out.seq] at hg1
  rw [Hh.out.cnt] at hg2
  have hq := Hh.out.lt.1
  have hcn := Hh.out.lt.2
  have Hrd := Lib.hid hrd
  have G1 := Lib.hid hg1
  have G2 := Lib.hid hg2
  have hcv : IntKind.i64.wrap (cnt : Int) = (cnt : Int) := by rw [IntKind.wrap_i64]; omega
  obtain ⟨zl, hzl⟩ : ∃ zl, zl = List.replicate 64 (0 : UInt8) := ⟨_, rfl⟩
  have hzlen : zl.length = 64 := by rw [hzl]; simp
  have hmk : ∀ u : World, (Instr.makeSlice 37 (.int .i64 64) (.int .i64 64)).run Tryz.prog u = .ok (.slice (some ⟨u.heap.size, 0, none⟩) 64 64) (u.alloc (.cells (bytesV zl).toArray 5)) := fun u => by
    rw [hzl]; exact make_bytes 64 (by omega) u
  have hBz : Below w.heap.size w (w1.alloc (.cells (bytesV zl).toArray 5)) := HB1.out.alloc HB1.out.size _
  have Hrm := Lib.hid (fun W (hW : Below w.heap.size w W) => room_any W bj b start n seq ((hW.block bj Hlt.out).trans HJ.out) hn3 hn)
  have hz : Rd (w1.alloc (.cells (bytesV zl).toArray 5)) (w1.heap.size + 1) (some ⟨w1.heap.size, 0, none⟩) (bytesV zl) := by
    have h := (Bk.new w1 5 (bytesV zl)).rd 64 0
    rw [List.drop_zero, List.take_of_length_le (by rw [length_bytesV, hzlen]; exact Nat.le_refl _), World.size_alloc] at h
    exact h
  have Hz := Lib.hid hz
  have HBz := Lib.hid hBz
  have Hrdz : Hid (Rd (w1.alloc (.cells (bytesV zl).toArray 5)) (w1.heap.size + 1) (some ⟨w.heap.size, 0, none⟩) (bytesV c.b)) := (Hrd.out.below ((Below.refl _ w1).alloc (Nat.le_refl _) _)).more (by omega)
  have hrr : ¬ (room n : Int) < (cnt : Int) := by have := Hr.out; omega
  have Hzl := Lib.hid hzl
  have Hzlen := Lib.hid hzlen
  clear hrd hg1 hg2 hBz hz hzl hzlen
  generalize hZ : (bytesV zl).toArray = Z at *
  clear hZ
  cases hzb : (c.b == zl)
  · have hcb : c.b = headB q cnt := by
      rcases Hh.out with h | h
      · exact h.1
      · rw [h.1, Hzl.out] at hzb; simp at hzb
    have Hcb := Lib.hid hcb
    have Hzb := Lib.hid hzb
    clear hzb hcb
    go_wp2_with fail
    refine G1.out.mono ?_
    rintro e w' ⟨rfl, rfl⟩
    go_wp2_with fail
    refine G2.out.mono ?_
    rintro e w' ⟨rfl, rfl⟩
    go_wp2_with fail
    refine (equal_any c.b zl _ _ 64 64 64 64 _ _ _ c.hb Hzlen.out Hrdz.out Hz.out).mono ?_
    rintro e w' ⟨rfl, rfl⟩
    rw [Hzb.out]
    go_wp2_with fail
    refine (headOf_any q cnt hq hcn _).mono ?_
    rintro e w2 ⟨v2, rfl, hM2⟩
    obtain ⟨g2, c2, rfl, hc2, hg2, hg2', hr2⟩ := made_slice hM2 (length_headB q cnt) (by omega)
    have Hrd2 : Hid (Rd w2 w2.heap.size (some ⟨g2, 0, none⟩) (bytesV (headB q cnt))) := .inr ⟨g2, 0, rfl, hg2', fun j u hu => hr2 j u hu⟩
    have HB2 := Lib.hid (HBz.out.trans (hM2.2.mono HBz.out.size))
    have Hrd3 := Lib.hid ((Hrdz.out.more (by simp)).below hM2.2)
    clear hM2 hr2 hc2 hg2 hg2'
    go_wp2_with fail
    refine (equal_any c.b (headB q cnt) _ _ 64 64 64 c2 _ _ _ c.hb (length_headB q cnt) Hrd3.out Hrd2.out).mono ?_
    rintro e w' ⟨rfl, rfl⟩
    rw [Hcb.out, beq_self_eq_true]
    go_wp2_with (go_at_call 52; refine (Hrm.out _ HB2.out).mono ?_; rintro e w' ⟨rfl, rfl⟩)
    go_ret3
    exact ⟨rfl, HB2.out⟩
  · have Hzb := Lib.hid hzb
    clear hzb
    go_wp2_with fail
    refine G1.out.mono ?_
    rintro e w' ⟨rfl, rfl⟩
    go_wp2_with fail
    refine G2.out.mono ?_
    rintro e w' ⟨rfl, rfl⟩
    go_wp2_with fail
    refine (equal_any c.b zl _ _ 64 64 64 64 _ _ _ c.hb Hzlen.out Hrdz.out Hz.out).mono ?_
    rintro e w' ⟨rfl, rfl⟩
    rw [Hzb.out]
    go_wp2_with (go_at_call 52; refine (Hrm.out _ HBz.out).mono ?_; rintro e w' ⟨rfl, rfl⟩)
    go_ret3
    exact ⟨rfl, HBz.out⟩
end
end Go.Proofs.YtcjkbmmjpkghlaaGreat

/-
  Patches that are stored are loaded.
-/
namespace Go.Proofs.YtcjkbmmjpkghlaaGreat
open Go.RowKit
attribute [local go_sem ↓] Go.wp_at_zero Go.wp_at_succ

/-- Patch i of those that are stored. -/
def LoadsOne (N : List Sx) (start i : Nat) (p : Nat × Sx) : Prop :=
  ∃ cl cb, N[start + 1 + i / 15 * 16]? = some cl ∧ N[start + 1 + i / 15 * 16 + 1 + i % 15]? = some cb ∧ le ((cl.b.drop (2 * (i % 15) * 2)).take 2) = p.1 ∧ le ((cl.b.drop ((2 * (i % 15) + 1) * 2)).take 2) = p.2.t ∧ cb.b = p.2.b
def Loads (N : List Sx) (start : Nat) (l : List (Nat × Sx)) : Prop := ∀ i p, l[i]? = some p → LoadsOne N start i p

section
variable {w : World} {S T : Nat → Prop} {bj b start n seq : Nat} {k : Dk Sx}

/-- There is room for a journal. -/
theorem misplaced_any (hD : IsDisk sx w S b k) (hn3 : 3 ≤ n) (hn : n ≤ 4096) (hl : k.safe.length ≤ 4096) (hs : start + n ≤ k.safe.length) :
    Calls Tryz.prog 118 #[.pointer (some ⟨b, 0, none⟩), .int .i64 (start : Int), .int .i64 (n : Int)] w fun e w' => e = .returned (.int .i64 0) ∧ w = w' := by
  have HD := Lib.hid hD
  obtain ⟨m, hm⟩ : ∃ m, m = k.safe.length := ⟨_, rfl⟩
  rw [← hm] at hl hs
  have Hm := Lib.hid hm
  have h1 : ¬ (m : Int) - (n : Int) < (start : Int) := by omega
  clear hD hm
  go_enter Tryz.func118, Tryz.ntmps118
  go_wp2_with (go_at_call 43; refine (len_any _ S b k HD.out).mono ?_; rintro e w' ⟨rfl, rfl⟩; rw [← Hm.out])
  go_ret
  exact ⟨rfl, rfl⟩
theorem misplaced_nil (w : World) (s n : Int) : Calls Tryz.prog 118 #[.pointer none, .int .i64 s, .int .i64 n] w fun e w' => e = .returned (.int .i64 2) ∧ w = w' := by
  go_enter Tryz.func118, Tryz.ntmps118
  go_wp2
  go_ret
  exact ⟨rfl, rfl⟩

set_option maxRecDepth 100000 in
set_option maxHeartbeats 1600000 in
theorem loadOne_any (hJ : JB w bj b start n seq) (hD : IsDisk sx w S b k) (hd : k.dead = false) (hs : start ≤ 4096) (i : Nat) (hi : i ≤ 100000) (p : Nat × Sx) (hL : LoadsOne k.now start i p) (hp : p.1 < 65536) :
    Calls Tryz.prog 177 #[.pointer (some ⟨bj, 0, none⟩), .int .i64 (i : Int)] w fun e w' => ∃ g, e = .returned (.tuple #[.agg #[.int .i64 (p.1 : Int), .slice (some ⟨g, 0, none⟩) 64 64, .int .u16 (p.2.t : Int)], .int .i64 0]) ∧
      w.heap.size ≤ g ∧ g < w'.heap.size ∧ w'.rangeAt g 0 (bytesV p.2.b) ∧ Below w.heap.size w w' := by
  have hJa := (Bk.below hJ ((Below.refl w.heap.size w).alloc (Nat.le_refl _) (.cells #[.int .i64 0, .slice none 0 0, .int .u16 0] 110)) hJ.lt)
  obtain ⟨cl, cb, h1, h2, h3, h4, h5⟩ := hL
  obtain ⟨s, x⟩ := p
  simp only at h3 h4 h5 hp ⊢
  obtain ⟨kk, hkk⟩ : ∃ kk, kk = i % 15 := ⟨_, rfl⟩
  obtain ⟨gg, hgg⟩ : ∃ gg, gg = i / 15 := ⟨_, rfl⟩
  rw [← hkk] at h2 h3 h4
  rw [← hgg] at h1 h2
  obtain ⟨at_, hat⟩ : ∃ at_, at_ = start + 1 + gg * 16 := ⟨_, rfl⟩
  have q1 : (i : Int) / 15 = (gg : Int) := by omega
  have q2 : (i : Int) % 15 = (kk : Int) := by omega
  have q3 : (start : Int) + 1 + (gg : Int) * 16 = (at_ : Int) := by omega
  have q4 : kk < 15 := by omega
  rw [← hat] at h1 h2
  have q5 : at_ ≤ 200000 := by omega
  obtain ⟨at2, hat2⟩ : ∃ at2, at2 = at_ + 1 + kk := ⟨_, rfl⟩
  have q6 : (at_ : Int) + 1 + (kk : Int) = (at2 : Int) := by omega
  rw [← hat2] at h2
  have hxt := x.ht
  obtain ⟨t, ht⟩ : ∃ t, t = x.t := ⟨_, rfl⟩
  rw [← ht] at h4 hxt
  have Hat := Lib.hid hat2
  clear hkk hgg hat hat2
  have c0 := hJa.cell 0
  have c1 := hJa.cell 1
  have Hlt := Lib.hid hJ.lt
  have hb0 : Below w.heap.size w (w.alloc (.cells #[.int .i64 0, .slice none 0 0, .int .u16 0] 110)) := (Below.refl _ _).alloc (Nat.le_refl _) _
  have HDa := Lib.hid (hD.below hb0)
  have HJa := Lib.hid hJa
  have Hb0 := Lib.hid hb0
  have hB := Bk.new w 110 [.int .i64 0, .slice none 0 0, .int .u16 0]
  have HB := Lib.hid hB
  have H1 := Lib.hid h1
  have H2 := Lib.hid h2
  have H3 := Lib.hid h3
  have H4 := Lib.hid h4
  have H5 := Lib.hid h5
  have Hd := Lib.hid hd
  clear hJ hD hd hJa hb0 hB h1 h2 h3 h4 h5
  have q2' : (i : Int).tmod 15 = (kk : Int) := by rw [Int.tmod_eq_emod_of_nonneg (by omega)]; exact q2
  go_enter Tryz.func177, Tryz.ntmps177
  go_wp2_with fail
  refine (jread_any _ S b k HDa.out at_ cl H1.out Hd.out).mono ?_
  rintro e w1 ⟨rfl, hr1, hlt1, hb1⟩
  have hsz : (w.alloc (.cells #[.int .i64 0, .slice none 0 0, .int .u16 0] 110)).heap.size = w.heap.size + 1 := by simp
  have ltj : bj < (w.alloc (.cells #[.int .i64 0, .slice none 0 0, .int .u16 0] 110)).heap.size := by have := Hlt.out; omega
  have d0 := (hb1.cell (p := ⟨bj, 0, none⟩) ltj).trans c0
  have HD1 := Lib.hid (HDa.out.below hb1)
  have HB1 : Hid (Bk w1 w.heap.size 110 [.int .i64 0, .slice none 0 0, .int .u16 0]) := (hb1.block w.heap.size (by rw [hsz]; omega)).trans HB.out
  have HR1 : Hid (Rd w1 w1.heap.size (some ⟨w.heap.size + 1, 0, none⟩) (bytesV cl.b)) := .inr ⟨w.heap.size + 1, 0, rfl, by rw [← hsz]; exact hlt1, fun j u hu => by rw [← hsz]; exact hr1 j u hu⟩
  have Hb1 := Lib.hid (Hb0.out.trans (hb1.mono Hb0.out.size))
  have hw1 : w.heap.size + 1 < w1.heap.size := by rw [← hsz]; exact hlt1
  have Hw1 := Lib.hid hw1
  clear hr1 hlt1 hb1 c0 c1 ltj hw1
  go_wp2_with fail
  refine (jread_any w1 S b k HD1.out at2 cb H2.out Hd.out).mono ?_
  rintro e w2 ⟨rfl, hr2, hlt2, hb2⟩
  have HB2 : Hid (Bk w2 w.heap.size 110 [.int .i64 0, .slice none 0 0, .int .u16 0]) := (hb2.block w.heap.size (by have := Hw1.out; omega)).trans HB1.out
  have HR2 := Lib.hid ((HR1.out.below hb2).more hb2.size)
  have Hr2 := Lib.hid hr2
  have Hb2 := Lib.hid (Hb1.out.trans (hb2.mono Hb1.out.size))
  have Hlt2 := Lib.hid hlt2
  have g1 := get_ok cl.b (some ⟨w.heap.size + 1, 0, none⟩) 64 64 w2.heap.size (2 * kk * 2) 2 w2 cl.hb HR2.out (by omega) (by omega) (by omega) (by omega) (by omega)
  have g2 := get_ok cl.b (some ⟨w.heap.size + 1, 0, none⟩) 64 64 w2.heap.size ((2 * kk + 1) * 2) 2 w2 cl.hb HR2.out (by omega) (by omega) (by omega) (by omega) (by omega)
  rw [H3.out, show ((2 * kk * 2 : Nat) : Int) = 2 * (kk : Int) * 2 by omega] at g1
  rw [H4.out, show (((2 * kk + 1) * 2 : Nat) : Int) = (2 * (kk : Int) + 1) * 2 by omega] at g2
  have G1 := Lib.hid g1
  have G2 := Lib.hid g2
  have b0 := HB2.out.cell 0
  have b1 := HB2.out.cell 1
  have b2 := HB2.out.cell 2
  have f0 := HB2.out.frozen 0
  have f1 := HB2.out.frozen 1
  have f2 := HB2.out.frozen 2
  have e1 : IntKind.i64.wrap (s : Int) = (s : Int) := by rw [IntKind.wrap_i64]; omega
  have e2 : IntKind.u16.wrap (t : Int) = (t : Int) := by rw [IntKind.wrap_u16]; omega
  clear hr2 hlt2 hb2 g1 g2 d0
  go_wp2_with fail
  refine G1.out.mono ?_
  rintro e w' ⟨rfl, rfl⟩
  go_wp2_with fail
  refine G2.out.mono ?_
  rintro e w' ⟨rfl, rfl⟩
  go_wp2_with fail
  refine bodyPost_ret (v := .tuple #[.agg #[.int .i64 (s : Int), .slice (some ⟨w1.heap.size, 0, none⟩) 64 64, .int .u16 (x.t : Int)], .int .i64 0]) (by simp [results, Tryz.results177, go_sem, b0, b1, b2]) rfl ⟨w1.heap.size, rfl, by have := Hw1.out; omega, by simp; exact Hlt2.out, ?_, ?_⟩
  · rw [← H5.out]
    have hg : w1.heap.size ≠ w.heap.size := by have := Hw1.out; omega
    refine range_of_block Hr2.out ?_
    exact ((Below.heap_setCell _ _ _ _ hg).trans (Below.heap_setCell _ _ _ _ hg)).trans (Below.heap_setCell _ _ _ _ hg)
  · exact ((Hb2.out.setCell (p := ⟨w.heap.size, 0, none⟩) (Nat.le_refl _) _).setCell (p := ⟨w.heap.size, 1, none⟩) (Nat.le_refl _) _).setCell (p := ⟨w.heap.size, 2, none⟩) (Nat.le_refl _) _

/-- What is loaded so far. -/
def Got (w : World) (n₀ gl j : Nat) (l : List (Nat × Sx)) : Prop :=
  ∃ cs : List Value, Bk w gl 110 cs ∧ cs.length = l.length * 3 ∧ ∀ (i : Nat) (p : Nat × Sx), i < j → l[i]? = some p → ∃ ba, n₀ ≤ ba ∧ ba ≠ gl ∧ ba < w.heap.size ∧ cs[i * 3]? = some (.int .i64 (p.1 : Int)) ∧ cs[i * 3 + 1]? = some (.slice (some ⟨ba, 0, none⟩) 64 64) ∧ cs[i * 3 + 2]? = some (.int .u16 (p.2.t : Int)) ∧ w.rangeAt ba 0 (bytesV p.2.b)
theorem Got.below {w w' : World} {n₀ gl j : Nat} {l : List (Nat × Sx)} (h : Got w n₀ gl j l) (hb : Below w.heap.size w w') : Got w' n₀ gl j l := by
  obtain ⟨cs, h1, h2, h3⟩ := h
  exact ⟨cs, (hb.block gl h1.lt).trans h1, h2, fun i p hi hp => by
    obtain ⟨ba, e1, e2, e3, e4, e5, e6, e7⟩ := h3 i p hi hp
    exact ⟨ba, e1, e2, Nat.lt_of_lt_of_le e3 hb.size, e4, e5, e6, range_of_block e7 (hb.block ba e3)⟩⟩
theorem Got.set {w : World} {n₀ gl j : Nat} {l : List (Nat × Sx)} (h : Got w n₀ gl j l) (p : Nat × Sx) (hp : l[j]? = some p) (ba : Nat) (h1 : n₀ ≤ ba) (h2 : ba ≠ gl) (h3 : ba < w.heap.size) (h4 : w.rangeAt ba 0 (bytesV p.2.b)) :
    Got (((w.setCell ⟨gl, j * 3, none⟩ (.int .i64 (p.1 : Int))).setCell ⟨gl, j * 3 + 1, none⟩ (.slice (some ⟨ba, 0, none⟩) 64 64)).setCell ⟨gl, j * 3 + 2, none⟩ (.int .u16 (p.2.t : Int))) n₀ gl (j + 1) l := by
  obtain ⟨cs, e1, e2, e3⟩ := h
  have hj := (List.getElem?_eq_some_iff.1 hp).1
  have hkeep : ∀ b, b ≠ gl → (((w.setCell ⟨gl, j * 3, none⟩ (.int .i64 (p.1 : Int))).setCell ⟨gl, j * 3 + 1, none⟩ (.slice (some ⟨ba, 0, none⟩) 64 64)).setCell ⟨gl, j * 3 + 2, none⟩ (.int .u16 (p.2.t : Int))).heap[b]? = w.heap[b]? := fun b hb =>
    ((Below.heap_setCell _ _ _ _ hb).trans (Below.heap_setCell _ _ _ _ hb)).trans (Below.heap_setCell _ _ _ _ hb)
  refine ⟨_, ((e1.set (j * 3) _).set (j * 3 + 1) _).set (j * 3 + 2) _, by simpa using e2, fun i q hi hq => ?_⟩
  by_cases hij : i = j
  · subst hij
    rw [hp] at hq
    cases hq
    refine ⟨ba, h1, h2, by simpa using h3, ?_, ?_, ?_, range_of_block h4 (hkeep ba h2)⟩
    · rw [List.getElem?_set, if_neg (by omega), List.getElem?_set, if_neg (by omega), List.getElem?_set, if_pos rfl, if_pos (by omega)]
    · rw [List.getElem?_set, if_neg (by omega), List.getElem?_set, if_pos rfl, if_pos (by simp; omega)]
    · rw [List.getElem?_set, if_pos rfl, if_pos (by simp; omega)]
  · obtain ⟨b2, f1, f2, f3, f4, f5, f6, f7⟩ := e3 i q (by omega) hq
    refine ⟨b2, f1, f2, by simpa using f3, ?_, ?_, ?_, range_of_block f7 (hkeep b2 f2)⟩
    · rw [List.getElem?_set, if_neg (by omega), List.getElem?_set, if_neg (by omega), List.getElem?_set, if_neg (by omega)]; exact f4
    · rw [List.getElem?_set, if_neg (by omega), List.getElem?_set, if_neg (by omega), List.getElem?_set, if_neg (by omega)]; exact f5
    · rw [List.getElem?_set, if_neg (by omega), List.getElem?_set, if_neg (by omega), List.getElem?_set, if_neg (by omega)]; exact f6
theorem Got.pats {w : World} {n₀ gl : Nat} {l : List (Nat × Sx)} (h : Got w n₀ gl l.length l) (hg : n₀ ≤ gl) : Pats w (fun i => n₀ ≤ i) (some ⟨gl, 0, none⟩) (ints l) := fun i p hp => by
  rw [ints, List.getElem?_map, Option.map_eq_some_iff] at hp
  obtain ⟨q, hq, rfl⟩ := hp
  obtain ⟨cs, e1, e2, e3⟩ := h
  obtain ⟨ba, f1, f2, f3, f4, f5, f6, f7⟩ := e3 i q (List.getElem?_eq_some_iff.1 hq).1 hq
  exact ⟨gl, 0, ba, 0, 64, rfl, hg, f1, e1.lt, f3, Nat.le_refl _, by rw [Nat.zero_add, e1.cell]; exact f4, by rw [Nat.zero_add, e1.cell]; exact f5, by rw [Nat.zero_add, e1.cell]; exact f6, f7⟩

theorem info49' : (Tryz.prog.info? 110).map (fun i => (i.zero, i.size, i.bytes)) = some (some (.agg #[.int .i64 0, .slice none 0 0, .int .u16 0]), 3, 40) := by kernel_rfl
theorem make_pats (n : Nat) (h : n ≤ 65536) (u : World) : ∃ cs : List Value, cs.length = n * 3 ∧ (Instr.makeSlice 107 (.int .i64 (n : Int)) (.int .i64 (n : Int))).run Tryz.prog u =
    .ok (.slice (some ⟨u.heap.size, 0, none⟩) n n) (u.alloc (.cells cs.toArray 110)) := by
  obtain ⟨i0, hi, hz0, hz1, hz2⟩ := info_parts info49'
  have hr := run_make (P := Tryz.prog) u 107 110 i0 _ Tryz.underlying107 hi hz0 .i64 .i64 (n : Int) (n : Int) (by omega) (Int.le_refl _) (by rw [hz2]; omega) (by omega)
  refine ⟨(madeCells (Value.agg #[.int .i64 0, .slice none 0 0, .int .u16 0]).cells (n * i0.size)).toList, by simp [madeCells, hz1], ?_⟩
  simp only [Int.toNat_natCast] at hr
  rw [hr]

set_option maxRecDepth 100000 in
set_option maxHeartbeats 3200000 in
theorem jload_any (hJ : JB w bj b start n seq) (hD : IsDisk sx w S b k) (hd : k.dead = false) (hs : start ≤ 4096) (hn : n ≤ 4096) (l : List (Nat × Sx)) (m : Nat) (hm : l.length = m) (hmm : m ≤ 4096) (hL : Loads k.now start l) (hp : ∀ p ∈ l, p.1 < 65536 ∧ takesB k.safe.length start n (p.1 : Int) = true) :
    Calls Tryz.prog 120 #[.pointer (some ⟨bj, 0, none⟩), .int .i64 (m : Int)] w fun e w' => ∃ g, e = .returned (.tuple #[.slice (some ⟨g, 0, none⟩) m m, .int .i64 0]) ∧ Pats w' (fun i => w.heap.size ≤ i) (some ⟨g, 0, none⟩) (ints l) ∧ Below w.heap.size w w' := by
  have Hlt := Lib.hid hJ.lt
  have H1 := Lib.hid (fun W (hW : Below w.heap.size w W) (i : Nat) (hi : i ≤ 100000) p hp' hq => loadOne_any (i := i) (p := p) (hJ.below hW hJ.lt) (hD.below hW) hd hs hi hp' hq)
  have H2 := Lib.hid (fun W (hW : Below w.heap.size w W) (s : Int) => takes_any W S bj b start n seq k (hJ.below hW hJ.lt) (hD.below hW) hs hn s)
  have HL := Lib.hid hL
  have Hp := Lib.hid hp
  have Hm := Lib.hid hm
  clear hJ hD hd hL hp hm
  obtain ⟨cs, hcl, hmk⟩ := make_pats m (by omega) w
  go_enter Tryz.func120, Tryz.ntmps120
  have hb0 : Below w.heap.size w (w.alloc (.cells cs.toArray 110)) := (Below.refl _ _).alloc (Nat.le_refl _) _
  have Hb0 := Lib.hid hb0
  have HG0 : Hid (Got (w.alloc (.cells cs.toArray 110)) w.heap.size w.heap.size 0 l) := ⟨cs, Bk.new w 110 cs, by rw [hcl, Hm.out], fun i p hi _ => absurd hi (Nat.not_lt_zero _)⟩
  clear hb0 hcl
  go_wp2
  go_step3
  go_wp2
  go_loopw [6, 8, 13] (fun _ _ i wr => ∃ j : Nat, j ≤ m ∧ i = .int .i64 (j : Int) ∧ Got wr w.heap.size w.heap.size j l ∧ Below w.heap.size w wr ∧ w.heap.size < wr.heap.size) (fun _ _ i _ => m - (intOf i).toNat)
  case atStart => exact ⟨0, Nat.zero_le _, rfl, HG0.out, Hb0.out, by simp⟩
  case round =>
    obtain ⟨j, hj, rfl, hG, hB, hlt0⟩ := hrel
    have HG := Lib.hid hG
    have HB := Lib.hid hB
    clear hG hB
    by_cases hlt : j < m
    · obtain ⟨p, hp⟩ : ∃ p, l[j]? = some p := ⟨_, List.getElem?_eq_getElem (by rw [Hm.out]; exact hlt)⟩
      have Hpj := Lib.hid hp
      have hpv := Hp.out p (List.mem_of_getElem? hp)
      have h1 := H1.out wr HB.out j (by omega) p (HL.out j p hp) hpv.1
      have htk := Lib.hid hpv.2
      have Hlt0 := Lib.hid hlt0
      have hnext := Lib.hid (fun W ba (hW : Got W w.heap.size w.heap.size j l) => hW.set p hp ba)
      obtain ⟨s, x⟩ := p
      simp only at h1 htk hnext
      obtain ⟨t, ht⟩ : ∃ t : Int, t = x.t := ⟨_, rfl⟩
      rw [← ht] at h1 hnext
      have H1' := Lib.hid h1
      clear hp hpv h1 hlt0 ht
      go_wp2_with fail
      refine H1'.out.mono ?_
      rintro e w1 ⟨ba, rfl, hba1, hba2, hr, hb1⟩
      have hne : ba ≠ w.heap.size := by have := Hlt0.out; omega
      obtain ⟨cs1, f1, f2, f3⟩ := HG.out.below hb1
      have HG1 := Lib.hid (HG.out.below hb1)
      have hjl : j * 3 + 2 < cs1.length := by rw [f2, Hm.out]; omega
      have z0 : ∃ u, w1.cell? ⟨w.heap.size, j * 3, none⟩ = some u := ⟨_, (f1.cell (j * 3)).trans (List.getElem?_eq_getElem (by omega))⟩
      have z1 : ∃ u, w1.cell? ⟨w.heap.size, j * 3 + 1, none⟩ = some u := ⟨_, (f1.cell (j * 3 + 1)).trans (List.getElem?_eq_getElem (by omega))⟩
      have z2 : ∃ u, w1.cell? ⟨w.heap.size, j * 3 + 2, none⟩ = some u := ⟨_, (f1.cell (j * 3 + 2)).trans (List.getElem?_eq_getElem (by omega))⟩
      obtain ⟨u0, z0⟩ := z0
      obtain ⟨u1, z1⟩ := z1
      obtain ⟨u2, z2⟩ := z2
      have fz0 := f1.frozen (j * 3)
      have fz1 := f1.frozen (j * 3 + 1)
      have fz2 := f1.frozen (j * 3 + 2)
      have hgot := hnext.out w1 ba HG1.out (by have := HB.out.size; omega) hne hba2 hr
      have HB1 := Lib.hid ((((HB.out.trans (hb1.mono HB.out.size)).setCell (p := ⟨w.heap.size, j * 3, none⟩) (Nat.le_refl _) (.int .i64 (s : Int))).setCell (p := ⟨w.heap.size, j * 3 + 1, none⟩) (Nat.le_refl _) (.slice (some ⟨ba, 0, none⟩) 64 64)).setCell (p := ⟨w.heap.size, j * 3 + 2, none⟩) (Nat.le_refl _) (.int .u16 t))
      have HG2 := Lib.hid hgot
      have hc3 : (((w1.setCell ⟨w.heap.size, j * 3, none⟩ (.int .i64 (s : Int))).setCell ⟨w.heap.size, j * 3 + 1, none⟩ (.slice (some ⟨ba, 0, none⟩) 64 64)).setCell ⟨w.heap.size, j * 3 + 2, none⟩ (.int .u16 t)).cell? ⟨w.heap.size, j * 3, none⟩ = some (.int .i64 (s : Int)) := by
        rw [(((f1.set (j * 3) _).set (j * 3 + 1) _).set (j * 3 + 2) _).cell, List.getElem?_set, if_neg (by omega), List.getElem?_set, if_neg (by omega), List.getElem?_set, if_pos rfl, if_pos (by omega)]
      have hsz3 : w.heap.size < w1.heap.size := Nat.lt_of_lt_of_le Hlt0.out hb1.size
      clear f1 f2 f3 hjl hr hb1 hgot hba1 hba2 hne
      go_wp2_with fail
      refine (H2.out _ HB1.out (s : Int)).mono ?_
      rintro e w2 ⟨rfl, hb2⟩
      rw [htk.out]
      have HG3 := Lib.hid (HG2.out.below hb2)
      have HB3 := Lib.hid (HB1.out.trans (hb2.mono HB1.out.size))
      have hsz4 : w.heap.size < w2.heap.size := Nat.lt_of_lt_of_le (by simpa using hsz3) hb2.size
      clear hb2
      go_wp2
      go_roundw
      case rel => exact ⟨j + 1, by omega, by go_num, HG3.out, HB3.out, hsz4⟩
      case measure => simp [intOf]; omega
    · obtain rfl : j = m := by omega
      go_wp2
      rw [Exit.noGoto_ret]
      go_ret2
      refine ⟨w.heap.size, rfl, ?_, HB.out⟩
      have h := HG.out
      rw [← Hm.out] at h
      exact h.pats (Nat.le_refl _)
end
end Go.Proofs.YtcjkbmmjpkghlaaGreat

/-
  A commit.
-/
namespace Go.Proofs.YtcjkbmmjpkghlaaGreat
open Go.RowKit
attribute [local go_sem ↓] Go.wp_at_zero Go.wp_at_succ

/-- Where Commit's failed steps come together. -/
def CFail (v0 v1 : Value) (R : Int → World → Prop) (a : Act) (w : World) : Prop :=
  ∃ (e : Int) (u2 u3 u4 u5 u7 u8 u9 u10 u11 u12 u13 u14 u15 u16 u17 u18 u19 u20 u21 u22 u23 u24 u25 u26 u27 u28 u29 u30 u31 u32 u33 u34 u35 u36 u37 u38 u39 u40 u41 u42 u43 u44 u45 u46 u47 u48 : Value), a = { tmps := #[v0, v1, u2, u3, u4, u5, .int .i64 e, u7, u8, u9, u10, u11, u12, u13, u14, u15, u16, u17, u18, u19, u20, u21, u22, u23, u24, u25, u26, u27, u28, u29, u30, u31, u32, u33, u34, u35, u36, u37, u38, u39, u40, u41, u42, u43, u44, u45, u46, u47, u48], defers := [] } ∧ R e w

/-- What a call makes of a journal. -/
def JTurned (S : Nat → Prop) (w w' : World) (bj b start n seq : Nat) (k : Dk Sx) : Prop :=
  Kept (fun i => S i ∨ i = bj) w w' ∧ ∃ S', IsDisk sx w' S' b k ∧ (∀ i, S' i → S i ∨ w.heap.size ≤ i) ∧ JB w' bj b start n seq ∧ ¬ S' bj

section
variable {w : World} {S T : Nat → Prop} {bj b start n seq : Nat} {k : Dk Sx} {A : Option Addr}

theorem JTurned.same (hJ : JB w bj b start n seq) (hD : IsDisk sx w S b k) (hb : ¬ S bj) {w' : World} (h : Below w.heap.size w w') : JTurned S w w' bj b start n seq k :=
  ⟨Kept.of_below h, S, hD.below h, fun _i hi => .inl hi, (h.block bj hJ.lt).trans hJ, hb⟩
theorem JTurned.of {w' : World} (hJ : JB w bj b start n seq) (hb : ¬ S bj) (h : Turned sx S w w' b k) : JTurned S w w' bj b start n seq k := by
  obtain ⟨hK, S', hD, hS⟩ := h
  exact ⟨⟨hK.os, hK.tape, hK.output, hK.size, fun i hi hs => hK.block i hi fun h => hs (.inl h)⟩, S', hD, hS, (hK.block bj hJ.lt hb).trans hJ, fun hs => by
    rcases hS bj hs with h | h
    · exact hb h
    · have := hJ.lt; omega⟩

theorem takes_lt {m start n s : Nat} (h : takesB m start n (s : Int) = true) : s < m ∧ (s < start ∨ start + n ≤ s) := by
  simp only [takesB, Bool.and_eq_true, Bool.or_eq_true, decide_eq_true_eq] at h
  omega
end
end Go.Proofs.YtcjkbmmjpkghlaaGreat

/-
  A journal is opened.
-/
namespace Go.Proofs.YtcjkbmmjpkghlaaGreat
open Go.RowKit
attribute [local go_sem ↓] Go.wp_at_zero Go.wp_at_succ

/-- Where Open's failed steps come together. -/
def OFail (v0 v1 v2 : Value) (R : Int → World → Prop) (a : Act) (w : World) : Prop :=
  ∃ (e : Int) (u3 u4 u5 u6 u7 u8 u9 u10 u11 u13 u14 u15 u16 u17 u18 u19 u20 u21 u22 u23 u24 u25 u26 u27 u28 u29 u30 u31 u32 u33 u34 u35 u36 u37 u38 u39 u40 u41 u42 u43 u44 u45 u46 u47 u48 u49 u50 u51 u52 u53 u54 u55 u56 u57 : Value), a = { tmps := #[v0, v1, v2, u3, u4, u5, u6, u7, u8, u9, u10, u11, .int .i64 e, u13, u14, u15, u16, u17, u18, u19, u20, u21, u22, u23, u24, u25, u26, u27, u28, u29, u30, u31, u32, u33, u34, u35, u36, u37, u38, u39, u40, u41, u42, u43, u44, u45, u46, u47, u48, u49, u50, u51, u52, u53, u54, u55, u56, u57], defers := [] } ∧ R e w

def Dk.opened (k : Dk Sx) (start q : Nat) (l : List (Nat × Sx)) : Int × Dk Sx := if l = [] then (0, k) else k.finish start q l

section
variable {w : World} {S : Nat → Prop} {b start n : Nat} {k : Dk Sx}
theorem open_nil (w : World) (s n : Int) : Calls Tryz.prog 61 #[.pointer none, .int .i64 s, .int .i64 n] w fun e w' => e = .returned (.tuple #[.pointer none, .int .i64 0, .int .i64 2]) ∧ w = w' := by
  go_enter Tryz.func61, Tryz.ntmps61
  go_wp2
  refine wp_scope_labels 0 0 (fun _ _ => False) (OFail (.pointer none) (.int .i64 s) (.int .i64 n) (fun e w' => e = 2 ∧ w = w')) (fun _ _ => 0) rfl rfl ?_ (fun _ _ h => h.elim) ?_
  · go_wp2_with (go_at_call 118; refine (misplaced_nil _ _ _).mono ?_; rintro e w' ⟨rfl, rfl⟩)
    go_step3
    exact .inr ⟨rfl, _, _, _, _, _, _, _, _, _, _, _, _, _, _, _, _, _, _, _, _, _, _, _, _, _, _, _, _, _, _, _, _, _, _, _, _, _, _, _, _, _, _, _, _, _, _, _, _, _, _, _, _, _, _, _, rfl, rfl, rfl⟩
  · rintro a w1 ⟨e, u3, u4, u5, u6, u7, u8, u9, u10, u11, u13, u14, u15, u16, u17, u18, u19, u20, u21, u22, u23, u24, u25, u26, u27, u28, u29, u30, u31, u32, u33, u34, u35, u36, u37, u38, u39, u40, u41, u42, u43, u44, u45, u46, u47, u48, u49, u50, u51, u52, u53, u54, u55, u56, u57, rfl, rfl, rfl⟩
    go_wp2
    rw [jumps_ret]
    go_ret3
    exact ⟨rfl, rfl⟩

/-- What an opening ends in. -/
def ORes (S : Nat → Prop) (w : World) (b start n q m : Nat) (c : Int × Dk Sx) (v : Value) (w' : World) : Prop :=
  (c.1 = 0 ∧ ∃ bj, v = .tuple #[.pointer (some ⟨bj, 0, none⟩), .int .i64 (m : Int), .int .i64 0] ∧ w.heap.size ≤ bj ∧ Kept S w w' ∧ ∃ S', IsDisk sx w' S' b c.2 ∧ (∀ i, S' i → S i ∨ w.heap.size ≤ i) ∧ JB w' bj b start n q ∧ ¬ S' bj) ∨
  (c.1 ≠ 0 ∧ v = .tuple #[.pointer none, .int .i64 0, .int .i64 c.1] ∧ Turned sx S w w' b c.2)

set_option maxRecDepth 100000 in
set_option maxHeartbeats 3200000 in
theorem open_good (hD : IsDisk sx w S b k) (hd : k.dead = false) (hs : start ≤ 4096) (hn3 : 3 ≤ n) (hn : n ≤ 4096) (hsn : start + n ≤ k.safe.length) (hlen : k.safe.length ≤ 4096) (hun : k.un.length ≤ 100000) (c : Sx) (hc : k.now[start]? = some c) (q : Nat) (l : List (Nat × Sx)) (m : Nat) (hm : l.length = m) (hh : IsHead c q m) (hr : m ≤ room n)
    (hL : Loads k.now start l) (hp : ∀ p ∈ l, takesB k.safe.length start n (p.1 : Int) = true) :
    Calls Tryz.prog 61 #[.pointer (some ⟨b, 0, none⟩), .int .i64 (start : Int), .int .i64 (n : Int)] w fun e w' => ∃ v, e = .returned v ∧ ORes S w b start n q m (k.opened start q l) v w' := by
  have hm4 : m ≤ 4096 := by unfold room at hr; omega
  have hql := hh.lt.1
  have HD := Lib.hid hD
  have Hd := Lib.hid hd
  have Hc := Lib.hid hc
  have Hh := Lib.hid hh
  have HL := Lib.hid hL
  have Hp := Lib.hid hp
  have Hm := Lib.hid hm
  have Hsn := Lib.hid hsn
  have Hlen := Lib.hid hlen
  have Hun := Lib.hid hun
  have HMis := Lib.hid (misplaced_any hD hn3 hn hlen hsn)
  generalize hcc : k.opened start q l = cc
  have Hcc := Lib.hid hcc
  clear hD hd hc hh hL hp hm hsn hlen hun hcc
  have e1 : (w.alloc (.cells #[.pointer (some ⟨b, 0, none⟩), .int .i64 (start : Int), .int .i64 (n : Int), .int .u64 0] 151)).heap.size = w.heap.size + 1 := by simp
  have hB0 := Bk.new w 151 [.pointer (some ⟨b, 0, none⟩), .int .i64 (start : Int), .int .i64 (n : Int), .int .u64 0]
  have hJ0 : JB (w.alloc (.cells #[.pointer (some ⟨b, 0, none⟩), .int .i64 (start : Int), .int .i64 (n : Int), .int .u64 0] 151)) w.heap.size b start n 0 := hB0
  have hb0 : Below w.heap.size w (w.alloc (.cells #[.pointer (some ⟨b, 0, none⟩), .int .i64 (start : Int), .int .i64 (n : Int), .int .u64 0] 151)) := (Below.refl _ _).alloc (Nat.le_refl _) _
  have HB0 := Lib.hid hB0
  have HJ0 := Lib.hid hJ0
  have Hb0 := Lib.hid hb0
  have E1 := Lib.hid e1
  clear hB0 hJ0 hb0 e1
  go_enter Tryz.func61, Tryz.ntmps61
  go_wp2
  refine wp_scope_labels 0 0 (fun _ _ => False) (OFail (.pointer (some ⟨b, 0, none⟩)) (.int .i64 (start : Int)) (.int .i64 (n : Int)) (fun e w' => ORes S w b start n q m cc (.tuple #[.pointer none, .int .i64 0, .int .i64 e]) w')) (fun _ _ => 0) rfl rfl ?_ (fun _ _ h => h.elim) ?_
  · go_wp2_with (go_at_call 118; refine HMis.out.mono ?_; rintro e w' ⟨rfl, rfl⟩)
    refine (readHead_any HJ0.out (HD.out.below Hb0.out) hn3 hn Hd.out c Hc.out q m Hh.out hr).mono ?_
    rintro e w1 ⟨rfl, hb1⟩
    have hJ1 : JB w1 w.heap.size b start n 0 := (hb1.block w.heap.size (by rw [E1.out]; exact Nat.lt_succ_self _)).trans HJ0.out
    have cz := hJ1.cell 3
    have fz := hJ1.frozen 3
    have hBel : Below w.heap.size w (w1.setCell ⟨w.heap.size, 3, none⟩ (.int .u64 (q : Int))) := (Hb0.out.trans (hb1.mono Hb0.out.size)).setCell (p := ⟨w.heap.size, 3, none⟩) (Nat.le_refl _) _
    have hJ2 : JB (w1.setCell ⟨w.heap.size, 3, none⟩ (.int .u64 (q : Int))) w.heap.size b start n q := hJ1.set 3 _
    obtain ⟨w2, hw2⟩ : ∃ w2, w2 = w1.setCell ⟨w.heap.size, 3, none⟩ (.int .u64 (q : Int)) := ⟨_, rfl⟩
    rw [← hw2] at hBel hJ2
    have c2 := hJ2.cell 3
    have HB2 := Lib.hid hBel
    have HJ2 := Lib.hid hJ2
    have HW2 := Lib.hid hw2
    have hnS : ¬ S w.heap.size := fun h => by have := HD.out.lt h; omega
    have HnS := Lib.hid hnS
    clear hb1 hJ1 hBel hJ2 hw2 hnS
    by_cases hm0 : m = 0
    · subst hm0
      clear c2
      go_wp2
      rw [jumps_ret]
      go_ret3
      refine ⟨_, rfl, .inl ?_⟩
      have hl : l = [] := List.eq_nil_of_length_eq_zero Hm.out
      have hcc : cc = (0, k) := by rw [← Hcc.out, Dk.opened, if_pos hl]
      rw [hcc, ← HW2.out]
      exact ⟨rfl, w.heap.size, rfl, Nat.le_refl _, Kept.of_below HB2.out, S, HD.out.below HB2.out, fun i hi => .inl hi, HJ2.out, HnS.out⟩
    · have hmb : ((m : Int) == 0) = false := beq_eq_false_iff_ne.2 (by omega)
      have Hl := Lib.hid (jload_any (S := S) (k := k) HJ2.out (HD.out.below HB2.out) Hd.out hs hn l m Hm.out hm4 HL.out (fun p hp => ⟨by have := (takes_lt (Hp.out p hp)).1; have := Hlen.out; omega, Hp.out p hp⟩))
      go_wp2_with fail
      rw [← HW2.out]
      refine Hl.out.mono ?_
      rintro e w3 ⟨gl, rfl, hP3, hb3⟩
      have hJ3 : JB w3 w.heap.size b start n q := (hb3.block _ HJ2.out.lt).trans HJ2.out
      have hD3 : IsDisk sx w3 S b k := (HD.out.below HB2.out).below hb3
      have hP3' : Pats w3 (fun i => ¬ S i) (some ⟨gl, 0, none⟩) (ints l) := hP3.more fun i _ hi hs => by have hi' : w2.heap.size ≤ i := hi; have := HD.out.lt hs; have := HB2.out.size; omega
      have Hb3 := Lib.hid (HB2.out.trans (hb3.mono HB2.out.size))
      have HJ3 := Lib.hid hJ3
      have HD3 := Lib.hid hD3
      have HP3 := Lib.hid hP3'
      have c3 := hJ3.cell 3
      clear hP3 hb3 hJ3 hD3 hP3' c2
      go_wp2_with fail
      refine (finish_any (start := start) HJ3.out HD3.out HnS.out HP3.out (fun t ht => ht) m m Hm.out (fun p hp => (takes_lt (Hp.out p hp)).1) (by have := Hsn.out; omega) (by have := Hun.out; omega) q hql).mono ?_
      rintro e w4 ⟨rfl, hT4⟩
      have hcc : cc = k.finish start q l := by rw [← Hcc.out, Dk.opened, if_neg (fun h => hm0 (by rw [← Hm.out, h]; rfl))]
      rw [← hcc] at hT4 ⊢
      have hTw : Turned sx S w w4 b cc.2 := Turned.trans (Kept.of_below Hb3.out) (fun t ht => .inl ht) hT4
      have hJ4 : JB w4 w.heap.size b start n q := (hT4.1.block _ HJ3.out.lt HnS.out).trans HJ3.out
      have Hfin : Hid (∃ S', IsDisk sx w4 S' b cc.2 ∧ (∀ i, S' i → S i ∨ w.heap.size ≤ i) ∧ ¬ S' w.heap.size) := by
        obtain ⟨_, S', hD', hS'⟩ := hT4
        refine ⟨S', hD', fun i hi => (hS' i hi).elim .inl fun h => .inr (Nat.le_trans Hb3.out.size h), fun h => ?_⟩
        rcases hS' _ h with h1 | h1
        · exact HnS.out h1
        · have := HJ3.out.lt; omega
      have HTw := Lib.hid hTw
      have HJ4 := Lib.hid hJ4
      clear hT4 hTw hJ4 hcc c3
      obtain ⟨x, k4⟩ := cc
      simp only at HTw Hfin ⊢
      by_cases hx : x = 0
      · subst hx
        go_wp2
        rw [jumps_ret]
        go_ret3
        refine ⟨_, rfl, .inl ⟨rfl, w.heap.size, rfl, Nat.le_refl _, HTw.out.1, ?_⟩⟩
        obtain ⟨S', hD', hS', hn'⟩ := Hfin.out
        exact ⟨S', hD', hS', HJ4.out, hn'⟩
      · have hbb : (x != 0) = true := by simp [hx]
        go_wp2
        go_step3
        exact .inr ⟨rfl, _, _, _, _, _, _, _, _, _, _, _, _, _, _, _, _, _, _, _, _, _, _, _, _, _, _, _, _, _, _, _, _, _, _, _, _, _, _, _, _, _, _, _, _, _, _, _, _, _, _, _, _, _, _, _, rfl, .inr ⟨hx, rfl, HTw.out⟩⟩
  · rintro a w1 ⟨e, u3, u4, u5, u6, u7, u8, u9, u10, u11, u13, u14, u15, u16, u17, u18, u19, u20, u21, u22, u23, u24, u25, u26, u27, u28, u29, u30, u31, u32, u33, u34, u35, u36, u37, u38, u39, u40, u41, u42, u43, u44, u45, u46, u47, u48, u49, u50, u51, u52, u53, u54, u55, u56, u57, rfl, hR⟩
    go_wp2
    rw [jumps_ret]
    go_ret3
    exact ⟨_, rfl, hR⟩
end
end Go.Proofs.YtcjkbmmjpkghlaaGreat

/-
  What a commit, an opening and a power failure make of a disk, on paper: a journal at any place of a disk of any size.
-/
namespace Go.Proofs.YtcjkbmmjpkghlaaGreat.Jrn
open Go.Proofs.YtcjkbmmjpkghlaaGreat
open Go.RowKit

section
variable {α : Type}
theorem puts_mem {l : List (Nat × α)} : ∀ {L : List α} {x : α}, x ∈ puts L l → x ∈ L ∨ ∃ p ∈ l, p.2 = x := by
  induction l with
  | nil => intro L x h; exact .inl h
  | cons p l ih =>
    intro L x h
    rw [puts_cons] at h
    rcases ih h with h | ⟨q, hq, rfl⟩
    · rcases List.mem_or_eq_of_mem_set h with h | rfl
      · exact .inl h
      · exact .inr ⟨p, List.mem_cons_self .., rfl⟩
    · exact .inr ⟨q, List.mem_cons_of_mem _ hq, rfl⟩
theorem puts_indep {l : List (Nat × α)} : ∀ {L L' : List α} {s : Nat}, L.length = L'.length → (∃ p ∈ l, p.1 = s) → (puts L l)[s]? = (puts L' l)[s]? := by
  induction l with
  | nil => rintro L L' s _ ⟨p, hp, _⟩; cases hp
  | cons p l ih =>
    intro L L' s hl h
    rw [puts_cons, puts_cons]
    by_cases hs : ∃ q ∈ l, q.1 = s
    · exact ih (by simp [hl]) hs
    · have hn : ∀ q ∈ l, q.1 ≠ s := fun q hq e => hs ⟨q, hq, e⟩
      rw [puts_get hn, puts_get hn]
      obtain ⟨q, hq, e⟩ := h
      rcases List.mem_cons.1 hq with rfl | hq
      · subst e
        rw [List.getElem?_set, List.getElem?_set, if_pos rfl, if_pos rfl, hl]
      · exact absurd e (hn q hq)
theorem puts_twice {L : List α} {sub l : List (Nat × α)} (h : ∀ p ∈ sub, p ∈ l) : puts (puts L sub) l = puts L l := by
  apply List.ext_getElem?
  intro s
  by_cases hs : ∃ q ∈ l, q.1 = s
  · exact puts_indep (length_puts _ _) hs
  · have hn : ∀ q ∈ l, q.1 ≠ s := fun q hq e => hs ⟨q, hq, e⟩
    rw [puts_get hn, puts_get hn, puts_get fun q hq => hn q (h q hq)]
theorem puts_one (L : List α) (s : Nat) (x : α) : puts L [(s, x)] = L.set s x := rfl

theorem puts_const {s : Nat} {x : α} : ∀ {sub : List (Nat × α)} {L : List α}, (∀ p ∈ sub, p = (s, x)) → sub = [] ∧ puts L sub = L ∨ puts L sub = L.set s x
  | [], L, _ => .inl ⟨rfl, rfl⟩
  | p :: r, L, h => by
    right
    rw [puts_cons, h p (List.mem_cons_self ..)]
    rcases puts_const (sub := r) (L := L.set s x) fun q hq => h q (List.mem_cons_of_mem _ hq) with ⟨_, h1⟩ | h1
    · exact h1
    · rw [h1, List.set_set]

/-- What writes come to. -/
theorem writes_cases (l : List (Nat × α)) : ∀ k : Dk α, k.dead = false →
    ((k.writes l).1 = 0 ∧ (k.writes l).2.safe = puts k.now l ∧ (k.writes l).2.un = [] ∧ (k.writes l).2.dead = false ∧ (k.writes l).2.cut = k.cut) ∨
    (k.cut = true ∧ (k.writes l).1 = 6 ∧ (k.writes l).2.dead = true ∧ (k.writes l).2.safe = k.safe ∧ ∃ m, (k.writes l).2.un = k.un ++ l.take m) := by
  induction l with
  | nil =>
    intro k hd
    unfold Dk.writes
    cases ho : k.off
    · left
      simp [Dk.flush, ho, Dk.op, puts_nil, hd]
    · right
      have hc : k.cut = true := by
        simp [Dk.off, hd] at ho; exact ho.1
      simp [Dk.flush, ho, Dk.op, hc]
  | cons p l ih =>
    intro k hd
    unfold Dk.writes
    cases ho : k.off
    · have hw : (k.wrote p.1 p.2).dead = false := by simp [Dk.wrote, Dk.op, ho, hd]
      have hcut : (k.wrote p.1 p.2).cut = k.cut := by simp [Dk.wrote, Dk.op, ho]
      have hnow : (k.wrote p.1 p.2).now = puts k.now [p] := by
        rw [Dk.now, Dk.wrote_safe, Dk.wrote_un, puts_append]; rfl
      rcases ih (k.wrote p.1 p.2) hw with ⟨h1, h2, h3, h4, h5⟩ | ⟨h1, h2, h3, h4, m, h5⟩
      · left
        simp only [Bool.false_eq_true, if_false]
        refine ⟨h1, ?_, h3, h4, h5.trans hcut⟩
        rw [h2, hnow, puts_cons, puts_nil, puts_cons]
      · right
        simp only [Bool.false_eq_true, if_false]
        refine ⟨hcut ▸ h1, h2, h3, h4.trans (Dk.wrote_safe _ _ _), m + 1, ?_⟩
        rw [h5, Dk.wrote_un, List.take_succ_cons, List.append_assoc]; rfl
    · right
      have hc : k.cut = true := by
        simp [Dk.off, hd] at ho; exact ho.1
      simp only [if_true]
      refine ⟨hc, trivial, ?_, Dk.op_safe k, 0, ?_⟩
      · simp [Dk.op, ho]
      · simp [Dk.op_un]
theorem writes_dead (p : Nat × α) (l : List (Nat × α)) (k : Dk α) (hd : k.dead = true) : k.writes (p :: l) = (6, k) := by
  have ho : k.off = true := by simp [Dk.off, hd]
  unfold Dk.writes
  rw [if_pos ho, Dk.op, if_pos ho]
  cases k
  simp only at hd
  subst hd
  rfl
theorem crash_safe (k : Dk α) (t : Nat) : ∃ sub, (∀ p ∈ sub, p ∈ k.un) ∧ (k.crash t).safe = puts k.safe sub ∧ (k.crash t).un = [] ∧ (k.crash t).dead = false ∧ (k.crash t).cut = false :=
  ⟨kept t 0 k.un, kept_mem, rfl, rfl, rfl, rfl⟩
theorem now_of_un {k : Dk α} (h : k.un = []) : k.now = k.safe := by rw [Dk.now, h, puts_nil]
end


/-- Where the journal lies: n sectors from F on, of T. -/
structure Plc (F n T : Nat) : Prop where
  lo : 1 ≤ n
  hi : F + n ≤ T
  small : T ≤ 65535
/-- A sector that is not the journal's. -/
def Out (F n i : Nat) : Prop := i < F ∨ F + n ≤ i
/-- Patches that may be: of sectors that are not the journal's. -/
def Vals (F n T : Nat) (l : List (Nat × Sx)) : Prop := ∀ p ∈ l, Out F n p.1 ∧ p.1 < T
/-- What there is beside the journal. -/
def vw (F n : Nat) (S : List Sx) (i : Nat) : Option Sx := if i < F ∨ F + n ≤ i then S[i]? else none
theorem vw_far {F n : Nat} {S S' : List Sx} (h : ∀ i, Out F n i → S'[i]? = S[i]?) : vw F n S' = vw F n S := by
  funext i
  unfold vw
  split
  · exact h i (by assumption)
  · rfl
theorem vw_out {F n i : Nat} {S : List Sx} (h : Out F n i) : vw F n S i = S[i]? := if_pos h
theorem vw_set {F n : Nat} (hn : 1 ≤ n) (S : List Sx) (x : Sx) : vw F n (S.set F x) = vw F n S := vw_far fun i hi => by
  rw [List.getElem?_set, if_neg (by rintro rfl; rcases hi with hi | hi <;> omega)]

/-- A disk as it lies, with a journal's head, and the patches that are to be replayed. -/
structure Img (F n T : Nat) (S : List Sx) (q : Nat) (l : List (Nat × Sx)) : Prop where
  len : S.length = T
  head : ∃ c, S[F]? = some c ∧ IsHead c q l.length
  loads : Loads S F l
  val : Vals F n T l
  room : (stored l).length + 1 ≤ n

theorem isHead_headS (q m : Nat) (hq : q < 18446744073709551616) (hm : m < 65536) : IsHead (headS q m) q m := .inl ⟨rfl, hq, hm⟩
theorem loads_far {F n : Nat} {S S' : List Sx} {l : List (Nat × Sx)} (h : Loads S F l) (hr : (stored l).length + 1 ≤ n) (hs : ∀ i, F + 1 ≤ i → i < F + n → S'[i]? = S[i]?) : Loads S' F l := fun i p hp => by
  obtain ⟨cl, cb, h1, h2, h3⟩ := h i p hp
  obtain ⟨g1, g2⟩ := stored_at l i p hp
  have l1 := (List.getElem?_eq_some_iff.1 g1).1
  have l2 := (List.getElem?_eq_some_iff.1 g2).1
  exact ⟨cl, cb, (hs _ (by omega) (by omega)).trans h1, (hs _ (by omega) (by omega)).trans h2, h3⟩
theorem loads_nil (F : Nat) (S : List Sx) : Loads S F [] := fun i p h => by simp at h
theorem puts_in {F n T : Nat} {S : List Sx} {sub : List (Nat × Sx)} (h : Vals F n T sub) {i : Nat} (hi : F ≤ i) (h2 : i < F + n) : (puts S sub)[i]? = S[i]? := puts_get fun p hp => by
  have := (h p hp).1
  intro e
  rcases this with h | h <;> omega

theorem Img.subs {F n T : Nat} (hP : Plc F n T) {S : List Sx} {q : Nat} {l sub : List (Nat × Sx)} (h : Img F n T S q l) (hs : ∀ p ∈ sub, p ∈ l) : Img F n T (puts S sub) q l ∧ puts (puts S sub) l = puts S l := by
  have hv : Vals F n T sub := fun p hp => h.val p (hs p hp)
  have hlo := hP.lo
  refine ⟨⟨by rw [length_puts, h.len], ?_, loads_far h.loads h.room fun i hi h2 => puts_in hv (by omega) h2, h.val, h.room⟩, puts_twice hs⟩
  obtain ⟨c, h1, h2⟩ := h.head
  exact ⟨c, (puts_in hv (Nat.le_refl _) (by omega)).trans h1, h2⟩
/-- Another head, behind which nothing is to be replayed. -/
theorem Img.rest {F n T : Nat} (hP : Plc F n T) {S : List Sx} (hl : S.length = T) {q : Nat} (hq : q < 18446744073709551616) : Img F n T (S.set F (headS q 0)) q [] :=
  ⟨by rw [List.length_set, hl], ⟨headS q 0, by rw [List.getElem?_set, if_pos rfl, if_pos (by have := hP.lo; have := hP.hi; omega)], isHead_headS q 0 hq (by omega)⟩, loads_nil _ _, fun p hp => (by cases hp), by rw [length_stored]; have := hP.lo; simpa using this⟩

/-- When it is opened, there will be V. -/
def Safe (F n T N : Nat) (S : List Sx) (V : Nat → Option Sx) : Prop := ∃ q l, Img F n T S q l ∧ q ≤ N ∧ vw F n (puts S l) = V

/-- At rest. -/
structure Rest (F n T : Nat) (k : Dk Sx) (q : Nat) : Prop where
  img : Img F n T k.safe q []
  un : k.un = []
  dead : k.dead = false
/-- The power is off; behind a crash there will be what P says. -/
structure Fell (F n T N : Nat) (k : Dk Sx) (P : (Nat → Option Sx) → Prop) : Prop where
  dead : k.dead = true
  un : k.un.length ≤ n
  len : k.safe.length = T
  safe : ∀ t, ∃ V, P V ∧ Safe F n T N (k.crash t).safe V

theorem room_len {n : Nat} {l : List (Nat × Sx)} (h : (stored l).length + 1 ≤ n) : l.length + 1 ≤ n := by
  rw [length_stored] at h
  omega
theorem finish_spec {F n T : Nat} (hP : Plc F n T) {k : Dk Sx} {q : Nat} {l : List (Nat × Sx)} (h : Img F n T k.safe q l) (hu : k.un = []) (hd : k.dead = false) (hq : q < 18446744073709551616) :
    ((k.finish F q l).1 = 0 ∧ Rest F n T (k.finish F q l).2 q ∧ (k.finish F q l).2.safe = (puts k.safe l).set F (headS q 0) ∧ (k.finish F q l).2.cut = k.cut) ∨
    (k.cut = true ∧ (k.finish F q l).1 = 6 ∧ Fell F n T q (k.finish F q l).2 (fun V => V = vw F n (puts k.safe l))) := by
  have hlo := hP.lo
  have hrl := room_len h.room
  unfold Dk.finish
  rcases writes_cases l k hd with ⟨h1, h2, h3, h4, h5⟩ | ⟨h1, h2, h3, h4, m, h5⟩
  · rw [if_pos h1]
    rw [now_of_un hu] at h2
    have hI := (h.subs hP fun p hp => hp).1
    rw [← h2] at hI
    rcases writes_cases [(F, headS q 0)] (k.writes l).2 h4 with ⟨g1, g2, g3, g4, g5⟩ | ⟨g1, g2, g3, g4, m, g5⟩
    · left
      rw [now_of_un h3, h2, puts_one] at g2
      refine ⟨g1, ⟨?_, g3, g4⟩, g2, g5.trans h5⟩
      rw [g2]
      exact Img.rest hP (by rw [length_puts, h.len]) hq
    · right
      refine ⟨by rw [← h5]; exact g1, g2, g3, ?_, by rw [g4, h2, length_puts, h.len], fun t => ?_⟩
      · rw [g5, h3, List.nil_append, List.length_take]; simp only [List.length_singleton]; omega
      · obtain ⟨sub, c1, c2, _, _, _⟩ := crash_safe ((k.writes l).2.writes [(F, headS q 0)]).2 t
        rw [g5, h3, List.nil_append] at c1
        rw [g4] at c2
        refine ⟨_, rfl, ?_⟩
        rw [c2]
        have hall : ∀ p ∈ sub, p = (F, headS q 0) := fun p hp => by
          have := List.mem_of_mem_take (c1 p hp)
          simpa using this
        rcases puts_const (L := (k.writes l).2.safe) hall with ⟨_, hc⟩ | hc
        · rw [hc]
          exact ⟨q, l, hI, Nat.le_refl _, by rw [h2, puts_twice fun p hp => hp]⟩
        · rw [hc]
          exact ⟨q, [], Img.rest hP hI.len hq, Nat.le_refl _, by rw [puts_nil, vw_set hlo, h2]⟩
  · right
    rw [if_neg (by rw [h2]; decide)]
    refine ⟨h1, h2, h3, ?_, by rw [h4, h.len], fun t => ?_⟩
    · rw [h5, hu, List.nil_append, List.length_take]; omega
    · obtain ⟨sub, c1, c2, _, _, _⟩ := crash_safe (k.writes l).2 t
      rw [h5, hu, List.nil_append] at c1
      rw [h4] at c2
      obtain ⟨i1, i2⟩ := h.subs hP fun p hp => List.mem_of_mem_take (c1 p hp)
      exact ⟨_, rfl, q, l, by rw [c2]; exact i1, Nat.le_refl _, by rw [c2, i2]⟩

theorem Safe.up {F n T N M : Nat} {S : List Sx} {V : Nat → Option Sx} (h : Safe F n T N S V) (hM : N ≤ M) : Safe F n T M S V := by
  obtain ⟨q, l, h1, h2, h3⟩ := h
  exact ⟨q, l, h1, by omega, h3⟩
theorem Fell.up {F n T N M : Nat} {k : Dk Sx} {P Q : (Nat → Option Sx) → Prop} (h : Fell F n T N k P) (hM : N ≤ M) (hPQ : ∀ V, P V → Q V) : Fell F n T M k Q :=
  ⟨h.dead, h.un, h.len, fun t => by
    obtain ⟨V, h1, h2⟩ := h.safe t
    exact ⟨V, hPQ V h1, h2.up hM⟩⟩

/-- What is stored is loaded. -/
theorem loads_stored {F n T : Nat} (hP : Plc F n T) {S : List Sx} {l : List (Nat × Sx)} (hl : S.length = T) (hr : (stored l).length + 1 ≤ n) (hv : Vals F n T l) : Loads (puts S (placed (F + 1) (stored l))) F l := fun i p hp => by
  obtain ⟨h1, h2⟩ := stored_at l i p hp
  have hhi := hP.hi
  have a1 := puts_placed (stored l) (F + 1) S (by omega) _ _ h1
  have a2 := puts_placed (stored l) (F + 1) S (by omega) _ _ h2
  have hg : (grp l (i / 15))[i % 15]? = some p := by
    rw [grp, List.getElem?_take, if_pos (by omega), List.getElem?_drop, show 15 * (i / 15) + i % 15 = i by omega]; exact hp
  have hg15 : (grp l (i / 15)).length ≤ 15 := by rw [length_grp]; omega
  obtain ⟨w1, w2⟩ := words_get _ _ _ hg
  have hpT := (hv p (List.mem_of_getElem? hp)).2
  have hsm := hP.small
  exact ⟨_, _, a1, by rw [show F + 1 + i / 15 * 16 + 1 + i % 15 = F + 1 + (i / 15 * 16 + 1 + i % 15) by omega]; exact a2, listB_word _ hg15 _ _ w1 (by omega), listB_word _ hg15 _ _ w2 p.2.ht, rfl⟩
theorem placed_in {F n : Nat} {l : List (Nat × Sx)} (hr : (stored l).length + 1 ≤ n) : ∀ p ∈ placed (F + 1) (stored l), F + 1 ≤ p.1 ∧ p.1 < F + n := fun _p hp => by
  obtain ⟨h1, h2, _⟩ := placed_mem hp
  omega

/-- What a commit comes to. -/
def after (F : Nat) (S : List Sx) (q : Nat) (l : List (Nat × Sx)) : List Sx := (puts ((puts S (placed (F + 1) (stored l))).set F (headS (q + 1) l.length)) l).set F (headS (q + 1) 0)
theorem commit_spec {F n T : Nat} (hP : Plc F n T) {k : Dk Sx} {q : Nat} {l : List (Nat × Sx)} (h : Rest F n T k q) (_hl : l ≠ []) (hv : Vals F n T l) (hr : (stored l).length + 1 ≤ n) (hq : q + 1 < 18446744073709551616) :
    ((k.commit F q l).1 = 0 ∧ Rest F n T (k.commit F q l).2 (q + 1) ∧ (k.commit F q l).2.safe = after F k.safe q l ∧ (k.commit F q l).2.cut = k.cut) ∨
    (k.cut = true ∧ (k.commit F q l).1 = 6 ∧ Fell F n T (q + 1) (k.commit F q l).2 (fun V => V = vw F n k.safe ∨ V = vw F n (puts k.safe l))) := by
  have hlo := hP.lo
  have hhi := hP.hi
  have hsm := hP.small
  have hrl := room_len hr
  obtain ⟨⟨hlen, ⟨ch, hc1, hc2⟩, _, _, _⟩, hu, hd⟩ := h
  -- an image in which some of the stored sectors are new
  have hsub : ∀ sub, (∀ p ∈ sub, p ∈ placed (F + 1) (stored l)) → Img F n T (puts k.safe sub) q [] ∧ vw F n (puts k.safe sub) = vw F n k.safe := fun sub hs => by
    have h13 : ∀ p ∈ sub, F + 1 ≤ p.1 ∧ p.1 < F + n := fun p hp => placed_in hr p (hs p hp)
    exact ⟨⟨by rw [length_puts, hlen], ⟨ch, (puts_get fun p hp => by have := h13 p hp; omega).trans hc1, hc2⟩, loads_nil _ _, fun p hp => (by cases hp), by rw [length_stored]; simpa using hlo⟩, vw_far fun i hi => puts_get fun p hp => by have := h13 p hp; rcases hi with hi | hi <;> omega⟩
  unfold Dk.commit
  rcases writes_cases (placed (F + 1) (stored l)) k hd with ⟨h1, h2, h3, h4, h5⟩ | ⟨h1, h2, h3, h4, m, h5⟩
  · rw [if_pos h1]
    rw [now_of_un hu] at h2
    obtain ⟨i1, i2⟩ := hsub _ fun p hp => hp
    have hld := loads_stored hP hlen hr hv
    rw [← h2] at i1 i2 hld
    obtain ⟨k1, hk1⟩ : ∃ k1, k1 = (k.writes (placed (F + 1) (stored l))).2 := ⟨_, rfl⟩
    rw [← hk1] at h2 h3 h4 h5 i1 i2 hld ⊢
    have hI2 : Img F n T (k1.safe.set F (headS (q + 1) l.length)) (q + 1) l := ⟨by rw [List.length_set, i1.len], ⟨_, by rw [List.getElem?_set, if_pos rfl, if_pos (by rw [i1.len]; omega)], isHead_headS _ _ hq (by omega)⟩, loads_far hld hr fun i hi _ => by rw [List.getElem?_set, if_neg (by omega)], hv, hr⟩
    have hV : vw F n (puts (k1.safe.set F (headS (q + 1) l.length)) l) = vw F n (puts k.safe l) := by
      refine vw_far fun i hi => ?_
      have hii : (k1.safe.set F (headS (q + 1) l.length))[i]? = k.safe[i]? := by
        rw [List.getElem?_set, if_neg (by rcases hi with hi | hi <;> omega), h2, puts_get fun p hp => by have := placed_in hr p hp; rcases hi with hi | hi <;> omega]
      by_cases hs : ∃ p ∈ l, p.1 = i
      · exact puts_indep (by rw [List.length_set, i1.len, hlen]) hs
      · have hn : ∀ p ∈ l, p.1 ≠ i := fun p hp e => hs ⟨p, hp, e⟩
        rw [puts_get hn, puts_get hn, hii]
    unfold Dk.tell
    rcases writes_cases [(F, headS (q + 1) l.length)] k1 h4 with ⟨g1, g2, g3, g4, g5⟩ | ⟨g1, g2, g3, g4, m, g5⟩
    · rw [if_pos g1]
      rw [now_of_un h3, puts_one] at g2
      rw [← g2] at hI2 hV
      rcases finish_spec hP hI2 g3 g4 hq with ⟨f1, f2, f3, f4⟩ | ⟨f0, f1, f2⟩
      · left
        refine ⟨f1, f2, ?_, f4.trans (g5.trans h5)⟩
        rw [f3, g2, h2]; rfl
      · right
        refine ⟨by rw [← h5, ← g5]; exact f0, f1, f2.up (Nat.le_refl _) fun V hV' => ?_⟩
        right
        rw [hV', hV]
    · right
      rw [if_neg (by rw [g2]; decide)]
      refine ⟨by rw [← h5]; exact g1, g2, g3, ?_, by rw [g4, i1.len], fun t => ?_⟩
      · rw [g5, h3, List.nil_append, List.length_take]; simp only [List.length_singleton]; omega
      · obtain ⟨sub, c1, c2, _, _, _⟩ := crash_safe (k1.writes [(F, headS (q + 1) l.length)]).2 t
        rw [g5, h3, List.nil_append] at c1
        rw [g4] at c2
        rw [c2]
        have hall : ∀ p ∈ sub, p = (F, headS (q + 1) l.length) := fun p hp => by
          have := List.mem_of_mem_take (c1 p hp)
          simpa using this
        rcases puts_const (L := k1.safe) hall with ⟨_, hc⟩ | hc
        · rw [hc]
          exact ⟨_, .inl rfl, q, [], i1, by omega, by rw [puts_nil, i2]⟩
        · rw [hc]
          exact ⟨_, .inr rfl, q + 1, l, hI2, Nat.le_refl _, hV⟩
  · right
    rw [if_neg (by rw [h2]; decide)]
    refine ⟨h1, h2, h3, ?_, by rw [h4, hlen], fun t => ?_⟩
    · rw [h5, hu, List.nil_append, List.length_take, length_placed]; omega
    · obtain ⟨sub, c1, c2, _, _, _⟩ := crash_safe (k.writes (placed (F + 1) (stored l))).2 t
      rw [h5, hu, List.nil_append] at c1
      rw [h4] at c2
      obtain ⟨i1, i2⟩ := hsub sub fun p hp => List.mem_of_mem_take (c1 p hp)
      exact ⟨_, .inl rfl, q, [], by rw [c2]; exact i1, by omega, by rw [c2, puts_nil, i2]⟩
theorem vw_after {F n T : Nat} (hP : Plc F n T) (S : List Sx) (q : Nat) {l : List (Nat × Sx)} (hr : (stored l).length + 1 ≤ n) : vw F n (after F S q l) = vw F n (puts S l) := by
  have hlo := hP.lo
  unfold after
  rw [vw_set hlo]
  refine vw_far fun i hi => ?_
  by_cases hs : ∃ p ∈ l, p.1 = i
  · exact puts_indep (by rw [List.length_set, length_puts]) hs
  · have hn : ∀ p ∈ l, p.1 ≠ i := fun p hp e => hs ⟨p, hp, e⟩
    rw [puts_get hn, puts_get hn, List.getElem?_set, if_neg (by rcases hi with hi | hi <;> omega), puts_get fun p hp => by have := placed_in hr p hp; rcases hi with hi | hi <;> omega]

/-- An opening. -/
theorem opened_spec {F n T : Nat} (hP : Plc F n T) {k : Dk Sx} {q : Nat} {l : List (Nat × Sx)} (h : Img F n T k.safe q l) (hu : k.un = []) (hd : k.dead = false) (hq : q < 18446744073709551616) :
    ((k.opened F q l).1 = 0 ∧ Rest F n T (k.opened F q l).2 q ∧ vw F n (k.opened F q l).2.safe = vw F n (puts k.safe l) ∧ (k.opened F q l).2.cut = k.cut) ∨
    (k.cut = true ∧ (k.opened F q l).1 = 6 ∧ Fell F n T q (k.opened F q l).2 (fun V => V = vw F n (puts k.safe l))) := by
  unfold Dk.opened
  by_cases hl : l = []
  · subst hl
    rw [if_pos rfl]
    exact .inl ⟨rfl, ⟨h, hu, hd⟩, by rw [puts_nil], rfl⟩
  · rw [if_neg hl]
    rcases finish_spec hP h hu hd hq with ⟨f1, f2, f3, f4⟩ | f
    · left
      exact ⟨f1, f2, by rw [f3, vw_set hP.lo], f4⟩
    · exact .inr f
/-- Behind a crash it can be opened. -/
theorem Rest.crash {F n T : Nat} {k : Dk Sx} {q : Nat} (h : Rest F n T k q) (t : Nat) : (k.crash t).safe = k.safe := by
  obtain ⟨sub, c1, c2, _⟩ := crash_safe k t
  rw [h.un] at c1
  cases sub with
  | nil => exact c2
  | cons p r => exact absurd (c1 p (List.mem_cons_self ..)) (by simp)
theorem Rest.safe {F n T : Nat} {k : Dk Sx} {q N : Nat} (h : Rest F n T k q) (hN : q ≤ N) (t : Nat) : Safe F n T N (k.crash t).safe (vw F n k.safe) :=
  ⟨q, [], by rw [h.crash t]; exact h.img, hN, by rw [puts_nil, h.crash t]⟩
end Go.Proofs.YtcjkbmmjpkghlaaGreat.Jrn
