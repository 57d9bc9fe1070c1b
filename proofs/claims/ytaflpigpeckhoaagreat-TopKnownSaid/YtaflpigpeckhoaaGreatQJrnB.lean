/-
  A head is read.
-/
import Derived.Test.YtaflpigpeckhoaaGreatQJrnA
import Derived.WalkMore
import Derived.RangeFuncNested
import Derived.RangeFuncBound
import Derived.RangeFuncCalls
import Derived.RangeFuncLeaves
import Derived.Shelf.Abstract
import Derived.OwnWalkIn
import Derived.TacticsInMore
import Derived.LoopNIn
import Derived.LoopIn
import Derived.BigRegionIn
import Derived.RangeFuncBox
import Derived.RangeFuncFrom
import Derived.Shelf.RegionOpen
import Derived.Deep.AppendLies
namespace Go.Proofs.YtaflpigpeckhoaaGreat
open Go.RowKit
attribute [local go_sem ↓] Go.wp_at_zero Go.wp_at_succ

/-- A sector is a head. -/
def IsHead (c : Sx) (q cnt : Nat) : Prop := (c.b = headB q cnt ∧ q < 18446744073709551616 ∧ cnt < 65536) ∨ (c.b = List.replicate 64 0 ∧ q = 0 ∧ cnt = 0)
theorem IsHead.seq {c : Sx} {q cnt : Nat} (h : IsHead c q cnt) : le ((c.b.drop 0).take 8) = q := by
  rcases h with ⟨h1, h2, _⟩ | ⟨h1, h2, _⟩
  · rw [h1, headB_seq q cnt h2]
  · rw [h1, h2]; rfl
theorem IsHead.cnt {c : Sx} {q cnt : Nat} (h : IsHead c q cnt) : le ((c.b.drop 8).take 2) = cnt := by
  rcases h with ⟨h1, _, h2⟩ | ⟨h1, _, h2⟩
  · rw [h1, headB_cnt q cnt h2]
  · rw [h1, h2]; rfl
theorem IsHead.lt {c : Sx} {q cnt : Nat} (h : IsHead c q cnt) : q < 18446744073709551616 ∧ cnt < 65536 := by
  rcases h with ⟨_, h1, h2⟩ | ⟨_, h1, h2⟩
  · exact ⟨h1, h2⟩
  · omega

theorem sx_cells (c : Sx) : sx c = bytesV c.b ++ [.int .u16 (c.t : Int)] := rfl

section
variable {w : World} {S T : Nat → Prop} {bj b start n seq : Nat} {k : Dk Sx}

/-- A sector's bytes. -/
theorem jread_any (w : World) (S : Nat → Prop) (b : Nat) (k : Dk Sx) (h : IsDisk sx w S b k) (s : Nat) (c : Sx) (hc : k.now[s]? = some c) (hd : k.dead = false) :
    Calls Tryz.prog 13 #[.pointer (some ⟨b, 0, none⟩), .int .i64 (s : Int)] w fun e w' => e = .returned (.tuple #[.slice (some ⟨w.heap.size, 0, none⟩) 64 64, .int .i64 0]) ∧ w'.rangeAt w.heap.size 0 (bytesV c.b) ∧ w.heap.size < w'.heap.size ∧ Below w.heap.size w w' := by
  refine (read_any w S b k h s c (bytesV c.b) (.int .u16 (c.t : Int)) hc rfl (by rw [length_bytesV, c.hb]) (bytesV_one _) hd).mono ?_
  rintro e w' ⟨rfl, hB, hb⟩
  exact ⟨rfl, fun j v hj => by rw [Nat.zero_add, hB.cell]; exact hj, hB.lt, hb⟩

set_option maxHeartbeats 1600000 in
theorem readHead_any (hJ : JB w bj b start n seq) (hD : IsDisk sx w S b k) (hn3 : 3 ≤ n) (hn : n ≤ 4096) (hd : k.dead = false) (c : Sx) (hc : k.now[start]? = some c) (q cnt : Nat) (hh : IsHead c q cnt) (hr : cnt ≤ room n) :
    Calls Tryz.prog 20 #[.pointer (some ⟨bj, 0, none⟩)] w fun e w' => e = .returned (.tuple #[.int .u64 (q : Int), .int .i64 (cnt : Int), .int .i64 0]) ∧ Below w.heap.size w w' := by
  have c0 := hJ.cell 0
  have c1 := hJ.cell 1
  have Hlt := Lib.hid hJ.lt
  have HJ := Lib.hid hJ
  have HD := Lib.hid hD
  have Hd := Lib.hid hd
  have Hc := Lib.hid hc
  have Hh := Lib.hid hh
  have Hr := Lib.hid hr
  clear hJ hD hd hc hh hr
  go_enter Tryz.func20, Tryz.ntmps20
  go_wp2
  go_region_held3 (fun w' : World => w'.cell? ⟨bj, 0, none⟩ = some (.pointer (some ⟨b, 0, none⟩)) ∧ w'.cell? ⟨bj, 1, none⟩ = some (.int .i64 (start : Int)))
    (first | exact ⟨c0, c1⟩ | assumption)
    (first | (go_at_call 13; (refine (jread_any w.drew S b k (HD.out.keep fun _ _ => rfl) start c Hc.out Hd.out).mono ?_); rintro e w1 ⟨rfl, hr1, hlt1, hb1⟩; have HR1 := Lib.hid hr1; have Hlt1 := Lib.hid hlt1; have HB1 := Lib.hid ((Below.refl _ w).drew.trans hb1); have d0 := And.intro ((hb1.cell (p := ⟨bj, 0, none⟩) Hlt.out).trans c0) ((hb1.cell (p := ⟨bj, 1, none⟩) Hlt.out).trans c1); clear hr1 hlt1 hb1))
  clear c0 c1
  have hrd : Rd w1 w1.heap.size (some ⟨w.heap.size, 0, none⟩) (bytesV c.b) := .inr ⟨w.heap.size, 0, rfl, Hlt1.out, fun j u hu => HR1.out j u hu⟩
  have hg1 := get_ok c.b (some ⟨w.heap.size, 0, none⟩) 64 64 w1.heap.size 0 8 w1 c.hb hrd (by omega) (by omega) (by omega) (by omega) (by omega)
  have hg2 := get_ok c.b (some ⟨w.heap.size, 0, none⟩) 64 64 w1.heap.size 8 2 w1 c.hb hrd (by omega) (by omega) (by omega) (by omega) (by omega)
  rw [Hh.out.seq] at hg1
  rw [Hh.out.cnt] at hg2
  have hq := Hh.out.lt.1
  have hcn := Hh.out.lt.2
  have Hrd := Lib.hid hrd
  have G1 := Lib.hid hg1
  have G2 := Lib.hid hg2
  have hcv : IntKind.i64.wrap (cnt : Int) = (cnt : Int) := by rw [IntKind.wrap_i64]; omega
  obtain ⟨zl, hzl⟩ : ∃ zl, zl = List.replicate 64 (0 : UInt8) := ⟨_, rfl⟩
  have hzlen : zl.length = 64 := by rw [hzl]; simp
  have hmk : ∀ u : World, (Instr.makeSlice 33 (.int .i64 64) (.int .i64 64)).run Tryz.prog u = .ok (.slice (some ⟨u.heap.size, 0, none⟩) 64 64) (u.alloc (.cells (bytesV zl).toArray 5)) := fun u => by
    rw [hzl]; exact make_bytes 64 (by omega) u
  have hBz : Below w.heap.size w (w1.alloc (.cells (bytesV zl).toArray 5)) := HB1.out.alloc HB1.out.size _
  have Hrm := Lib.hid (fun W (hW : Below w.heap.size w W) => room_any W bj b start n seq ((hW.block bj Hlt.out).trans HJ.out) hn3 hn)
  have hz : Rd (w1.alloc (.cells (bytesV zl).toArray 5)) (w1.heap.size + 1) (some ⟨w1.heap.size, 0, none⟩) (bytesV zl) := by
    have h := (Bk.new w1 5 (bytesV zl)).rd 64 0
    rw [List.drop_zero, List.take_of_length_le (by rw [length_bytesV, hzlen]; exact Nat.le_refl _), World.size_alloc] at h
    exact h
  have Hz := Lib.hid hz
  have HBz := Lib.hid hBz
  have Hrdz : Hid (Rd (w1.alloc (.cells (bytesV zl).toArray 5)) (w1.heap.size + 1) (some ⟨w.heap.size, 0, none⟩) (bytesV c.b)) := (Hrd.out.below ((Below.refl _ w1).alloc (Nat.le_refl _) _)).more (by omega)
  have hrr : ¬ (room n : Int) < (cnt : Int) := by have := Hr.out; omega
  have Hzl := Lib.hid hzl
  have Hzlen := Lib.hid hzlen
  clear hrd hg1 hg2 hBz hz hzl hzlen
  generalize hZ : (bytesV zl).toArray = Z at *
  clear hZ
  cases hzb : (c.b == zl)
  · have hcb : c.b = headB q cnt := by
      rcases Hh.out with h | h
      · exact h.1
      · rw [h.1, Hzl.out] at hzb; simp at hzb
    have Hcb := Lib.hid hcb
    have Hzb := Lib.hid hzb
    clear hzb hcb
    go_wp2_with fail
    refine G1.out.mono ?_
    rintro e w' ⟨rfl, rfl⟩
    go_wp2_with fail
    refine G2.out.mono ?_
    rintro e w' ⟨rfl, rfl⟩
    go_wp2_with fail
    refine (equal_any c.b zl _ _ 64 64 64 64 _ _ _ c.hb Hzlen.out Hrdz.out Hz.out).mono ?_
    rintro e w' ⟨rfl, rfl⟩
    rw [Hzb.out]
    go_wp2_with fail
    refine (headOf_any q cnt hq hcn _).mono ?_
    rintro e w2 ⟨v2, rfl, hM2⟩
    obtain ⟨g2, c2, rfl, hc2, hg2, hg2', hr2⟩ := made_slice hM2 (length_headB q cnt) (by omega)
    have Hrd2 : Hid (Rd w2 w2.heap.size (some ⟨g2, 0, none⟩) (bytesV (headB q cnt))) := .inr ⟨g2, 0, rfl, hg2', fun j u hu => hr2 j u hu⟩
    have HB2 := Lib.hid (HBz.out.trans (hM2.2.mono HBz.out.size))
    have Hrd3 := Lib.hid ((Hrdz.out.more (by simp)).below hM2.2)
    clear hM2 hr2 hc2 hg2 hg2'
    go_wp2_with fail
    refine (equal_any c.b (headB q cnt) _ _ 64 64 64 c2 _ _ _ c.hb (length_headB q cnt) Hrd3.out Hrd2.out).mono ?_
    rintro e w' ⟨rfl, rfl⟩
    rw [Hcb.out, beq_self_eq_true]
    go_wp2_with (go_at_call 45; refine (Hrm.out _ HB2.out).mono ?_; rintro e w' ⟨rfl, rfl⟩)
    go_ret3
    exact ⟨rfl, HB2.out⟩
  · have Hzb := Lib.hid hzb
    clear hzb
    go_wp2_with fail
    refine G1.out.mono ?_
    rintro e w' ⟨rfl, rfl⟩
    go_wp2_with fail
    refine G2.out.mono ?_
    rintro e w' ⟨rfl, rfl⟩
    go_wp2_with fail
    refine (equal_any c.b zl _ _ 64 64 64 64 _ _ _ c.hb Hzlen.out Hrdz.out Hz.out).mono ?_
    rintro e w' ⟨rfl, rfl⟩
    rw [Hzb.out]
    go_wp2_with (go_at_call 45; refine (Hrm.out _ HBz.out).mono ?_; rintro e w' ⟨rfl, rfl⟩)
    go_ret3
    exact ⟨rfl, HBz.out⟩
end
end Go.Proofs.YtaflpigpeckhoaaGreat

/-
  Patches that are stored are loaded.
-/
namespace Go.Proofs.YtaflpigpeckhoaaGreat
open Go.RowKit
attribute [local go_sem ↓] Go.wp_at_zero Go.wp_at_succ

/-- Patch i of those that are stored. -/
def LoadsOne (N : List Sx) (start i : Nat) (p : Nat × Sx) : Prop :=
  ∃ cl cb, N[start + 1 + i / 15 * 16]? = some cl ∧ N[start + 1 + i / 15 * 16 + 1 + i % 15]? = some cb ∧ le ((cl.b.drop (2 * (i % 15) * 2)).take 2) = p.1 ∧ le ((cl.b.drop ((2 * (i % 15) + 1) * 2)).take 2) = p.2.t ∧ cb.b = p.2.b
def Loads (N : List Sx) (start : Nat) (l : List (Nat × Sx)) : Prop := ∀ i p, l[i]? = some p → LoadsOne N start i p

section
variable {w : World} {S T : Nat → Prop} {bj b start n seq : Nat} {k : Dk Sx}

/-- There is room for a journal. -/
theorem misplaced_any (hD : IsDisk sx w S b k) (hn3 : 3 ≤ n) (hn : n ≤ 4096) (hl : k.safe.length ≤ 4096) (hs : start + n ≤ k.safe.length) :
    Calls Tryz.prog 19 #[.pointer (some ⟨b, 0, none⟩), .int .i64 (start : Int), .int .i64 (n : Int)] w fun e w' => e = .returned (.int .i64 0) ∧ w = w' := by
  have HD := Lib.hid hD
  obtain ⟨m, hm⟩ : ∃ m, m = k.safe.length := ⟨_, rfl⟩
  rw [← hm] at hl hs
  have Hm := Lib.hid hm
  have h1 : ¬ (m : Int) - (n : Int) < (start : Int) := by omega
  clear hD hm
  go_enter Tryz.func19, Tryz.ntmps19
  go_wp2_with (go_at_call 42; refine (len_any _ S b k HD.out).mono ?_; rintro e w' ⟨rfl, rfl⟩; rw [← Hm.out])
  go_ret
  exact ⟨rfl, rfl⟩
theorem misplaced_nil (w : World) (s n : Int) : Calls Tryz.prog 19 #[.pointer none, .int .i64 s, .int .i64 n] w fun e w' => e = .returned (.int .i64 2) ∧ w = w' := by
  go_enter Tryz.func19, Tryz.ntmps19
  go_wp2
  go_ret
  exact ⟨rfl, rfl⟩

set_option maxRecDepth 100000 in
set_option maxHeartbeats 1600000 in
theorem loadOne_any (hJ : JB w bj b start n seq) (hD : IsDisk sx w S b k) (hd : k.dead = false) (hs : start ≤ 4096) (i : Nat) (hi : i ≤ 100000) (p : Nat × Sx) (hL : LoadsOne k.now start i p) (hp : p.1 < 65536) :
    Calls Tryz.prog 46 #[.pointer (some ⟨bj, 0, none⟩), .int .i64 (i : Int)] w fun e w' => ∃ g, e = .returned (.tuple #[.agg #[.int .i64 (p.1 : Int), .slice (some ⟨g, 0, none⟩) 64 64, .int .u16 (p.2.t : Int)], .int .i64 0]) ∧
      w.heap.size ≤ g ∧ g < w'.heap.size ∧ w'.rangeAt g 0 (bytesV p.2.b) ∧ Below w.heap.size w w' := by
  have hJa := (Bk.below hJ ((Below.refl w.heap.size w).alloc (Nat.le_refl _) (.cells #[.int .i64 0, .slice none 0 0, .int .u16 0] 50)) hJ.lt)
  obtain ⟨cl, cb, h1, h2, h3, h4, h5⟩ := hL
  obtain ⟨s, x⟩ := p
  simp only at h3 h4 h5 hp ⊢
  obtain ⟨kk, hkk⟩ : ∃ kk, kk = i % 15 := ⟨_, rfl⟩
  obtain ⟨gg, hgg⟩ : ∃ gg, gg = i / 15 := ⟨_, rfl⟩
  rw [← hkk] at h2 h3 h4
  rw [← hgg] at h1 h2
  obtain ⟨at_, hat⟩ : ∃ at_, at_ = start + 1 + gg * 16 := ⟨_, rfl⟩
  have q1 : (i : Int) / 15 = (gg : Int) := by omega
  have q2 : (i : Int) % 15 = (kk : Int) := by omega
  have q3 : (start : Int) + 1 + (gg : Int) * 16 = (at_ : Int) := by omega
  have q4 : kk < 15 := by omega
  rw [← hat] at h1 h2
  have q5 : at_ ≤ 200000 := by omega
  obtain ⟨at2, hat2⟩ : ∃ at2, at2 = at_ + 1 + kk := ⟨_, rfl⟩
  have q6 : (at_ : Int) + 1 + (kk : Int) = (at2 : Int) := by omega
  rw [← hat2] at h2
  have hxt := x.ht
  obtain ⟨t, ht⟩ : ∃ t, t = x.t := ⟨_, rfl⟩
  rw [← ht] at h4 hxt
  have Hat := Lib.hid hat2
  clear hkk hgg hat hat2
  have c0 := hJa.cell 0
  have c1 := hJa.cell 1
  have Hlt := Lib.hid hJ.lt
  have hb0 : Below w.heap.size w (w.alloc (.cells #[.int .i64 0, .slice none 0 0, .int .u16 0] 50)) := (Below.refl _ _).alloc (Nat.le_refl _) _
  have HDa := Lib.hid (hD.below hb0)
  have HJa := Lib.hid hJa
  have Hb0 := Lib.hid hb0
  have hB := Bk.new w 50 [.int .i64 0, .slice none 0 0, .int .u16 0]
  have HB := Lib.hid hB
  have H1 := Lib.hid h1
  have H2 := Lib.hid h2
  have H3 := Lib.hid h3
  have H4 := Lib.hid h4
  have H5 := Lib.hid h5
  have Hd := Lib.hid hd
  clear hJ hD hd hJa hb0 hB h1 h2 h3 h4 h5
  have q2' : (i : Int).tmod 15 = (kk : Int) := by rw [Int.tmod_eq_emod_of_nonneg (by omega)]; exact q2
  go_enter Tryz.func46, Tryz.ntmps46
  go_wp2_with fail
  refine (jread_any _ S b k HDa.out at_ cl H1.out Hd.out).mono ?_
  rintro e w1 ⟨rfl, hr1, hlt1, hb1⟩
  have hsz : (w.alloc (.cells #[.int .i64 0, .slice none 0 0, .int .u16 0] 50)).heap.size = w.heap.size + 1 := by simp
  have ltj : bj < (w.alloc (.cells #[.int .i64 0, .slice none 0 0, .int .u16 0] 50)).heap.size := by have := Hlt.out; omega
  have d0 := (hb1.cell (p := ⟨bj, 0, none⟩) ltj).trans c0
  have HD1 := Lib.hid (HDa.out.below hb1)
  have HB1 : Hid (Bk w1 w.heap.size 50 [.int .i64 0, .slice none 0 0, .int .u16 0]) := (hb1.block w.heap.size (by rw [hsz]; omega)).trans HB.out
  have HR1 : Hid (Rd w1 w1.heap.size (some ⟨w.heap.size + 1, 0, none⟩) (bytesV cl.b)) := .inr ⟨w.heap.size + 1, 0, rfl, by rw [← hsz]; exact hlt1, fun j u hu => by rw [← hsz]; exact hr1 j u hu⟩
  have Hb1 := Lib.hid (Hb0.out.trans (hb1.mono Hb0.out.size))
  have hw1 : w.heap.size + 1 < w1.heap.size := by rw [← hsz]; exact hlt1
  have Hw1 := Lib.hid hw1
  clear hr1 hlt1 hb1 c0 c1 ltj hw1
  go_wp2_with fail
  refine (jread_any w1 S b k HD1.out at2 cb H2.out Hd.out).mono ?_
  rintro e w2 ⟨rfl, hr2, hlt2, hb2⟩
  have HB2 : Hid (Bk w2 w.heap.size 50 [.int .i64 0, .slice none 0 0, .int .u16 0]) := (hb2.block w.heap.size (by have := Hw1.out; omega)).trans HB1.out
  have HR2 := Lib.hid ((HR1.out.below hb2).more hb2.size)
  have Hr2 := Lib.hid hr2
  have Hb2 := Lib.hid (Hb1.out.trans (hb2.mono Hb1.out.size))
  have Hlt2 := Lib.hid hlt2
  have g1 := get_ok cl.b (some ⟨w.heap.size + 1, 0, none⟩) 64 64 w2.heap.size (2 * kk * 2) 2 w2 cl.hb HR2.out (by omega) (by omega) (by omega) (by omega) (by omega)
  have g2 := get_ok cl.b (some ⟨w.heap.size + 1, 0, none⟩) 64 64 w2.heap.size ((2 * kk + 1) * 2) 2 w2 cl.hb HR2.out (by omega) (by omega) (by omega) (by omega) (by omega)
  rw [H3.out, show ((2 * kk * 2 : Nat) : Int) = 2 * (kk : Int) * 2 by omega] at g1
  rw [H4.out, show (((2 * kk + 1) * 2 : Nat) : Int) = (2 * (kk : Int) + 1) * 2 by omega] at g2
  have G1 := Lib.hid g1
  have G2 := Lib.hid g2
  have b0 := HB2.out.cell 0
  have b1 := HB2.out.cell 1
  have b2 := HB2.out.cell 2
  have f0 := HB2.out.frozen 0
  have f1 := HB2.out.frozen 1
  have f2 := HB2.out.frozen 2
  have e1 : IntKind.i64.wrap (s : Int) = (s : Int) := by rw [IntKind.wrap_i64]; omega
  have e2 : IntKind.u16.wrap (t : Int) = (t : Int) := by rw [IntKind.wrap_u16]; omega
  clear hr2 hlt2 hb2 g1 g2 d0
  go_wp2_with fail
  refine G1.out.mono ?_
  rintro e w' ⟨rfl, rfl⟩
  go_wp2_with fail
  refine G2.out.mono ?_
  rintro e w' ⟨rfl, rfl⟩
  go_wp2_with fail
  refine bodyPost_ret (v := .tuple #[.agg #[.int .i64 (s : Int), .slice (some ⟨w1.heap.size, 0, none⟩) 64 64, .int .u16 (x.t : Int)], .int .i64 0]) (by simp [results, Tryz.results46, go_sem, b0, b1, b2]) rfl ⟨w1.heap.size, rfl, by have := Hw1.out; omega, by simp; exact Hlt2.out, ?_, ?_⟩
  · rw [← H5.out]
    have hg : w1.heap.size ≠ w.heap.size := by have := Hw1.out; omega
    refine range_of_block Hr2.out ?_
    exact ((Below.heap_setCell _ _ _ _ hg).trans (Below.heap_setCell _ _ _ _ hg)).trans (Below.heap_setCell _ _ _ _ hg)
  · exact ((Hb2.out.setCell (p := ⟨w.heap.size, 0, none⟩) (Nat.le_refl _) _).setCell (p := ⟨w.heap.size, 1, none⟩) (Nat.le_refl _) _).setCell (p := ⟨w.heap.size, 2, none⟩) (Nat.le_refl _) _

/-- What is loaded so far. -/
def Got (w : World) (n₀ gl j : Nat) (l : List (Nat × Sx)) : Prop :=
  ∃ cs : List Value, Bk w gl 50 cs ∧ cs.length = l.length * 3 ∧ ∀ (i : Nat) (p : Nat × Sx), i < j → l[i]? = some p → ∃ ba, n₀ ≤ ba ∧ ba ≠ gl ∧ ba < w.heap.size ∧ cs[i * 3]? = some (.int .i64 (p.1 : Int)) ∧ cs[i * 3 + 1]? = some (.slice (some ⟨ba, 0, none⟩) 64 64) ∧ cs[i * 3 + 2]? = some (.int .u16 (p.2.t : Int)) ∧ w.rangeAt ba 0 (bytesV p.2.b)
theorem Got.below {w w' : World} {n₀ gl j : Nat} {l : List (Nat × Sx)} (h : Got w n₀ gl j l) (hb : Below w.heap.size w w') : Got w' n₀ gl j l := by
  obtain ⟨cs, h1, h2, h3⟩ := h
  exact ⟨cs, (hb.block gl h1.lt).trans h1, h2, fun i p hi hp => by
    obtain ⟨ba, e1, e2, e3, e4, e5, e6, e7⟩ := h3 i p hi hp
    exact ⟨ba, e1, e2, Nat.lt_of_lt_of_le e3 hb.size, e4, e5, e6, range_of_block e7 (hb.block ba e3)⟩⟩
theorem Got.set {w : World} {n₀ gl j : Nat} {l : List (Nat × Sx)} (h : Got w n₀ gl j l) (p : Nat × Sx) (hp : l[j]? = some p) (ba : Nat) (h1 : n₀ ≤ ba) (h2 : ba ≠ gl) (h3 : ba < w.heap.size) (h4 : w.rangeAt ba 0 (bytesV p.2.b)) :
    Got (((w.setCell ⟨gl, j * 3, none⟩ (.int .i64 (p.1 : Int))).setCell ⟨gl, j * 3 + 1, none⟩ (.slice (some ⟨ba, 0, none⟩) 64 64)).setCell ⟨gl, j * 3 + 2, none⟩ (.int .u16 (p.2.t : Int))) n₀ gl (j + 1) l := by
  obtain ⟨cs, e1, e2, e3⟩ := h
  have hj := (List.getElem?_eq_some_iff.1 hp).1
  have hkeep : ∀ b, b ≠ gl → (((w.setCell ⟨gl, j * 3, none⟩ (.int .i64 (p.1 : Int))).setCell ⟨gl, j * 3 + 1, none⟩ (.slice (some ⟨ba, 0, none⟩) 64 64)).setCell ⟨gl, j * 3 + 2, none⟩ (.int .u16 (p.2.t : Int))).heap[b]? = w.heap[b]? := fun b hb =>
    ((Below.heap_setCell _ _ _ _ hb).trans (Below.heap_setCell _ _ _ _ hb)).trans (Below.heap_setCell _ _ _ _ hb)
  refine ⟨_, ((e1.set (j * 3) _).set (j * 3 + 1) _).set (j * 3 + 2) _, by simpa using e2, fun i q hi hq => ?_⟩
  by_cases hij : i = j
  · subst hij
    rw [hp] at hq
    cases hq
    refine ⟨ba, h1, h2, by simpa using h3, ?_, ?_, ?_, range_of_block h4 (hkeep ba h2)⟩
    · rw [List.getElem?_set, if_neg (by omega), List.getElem?_set, if_neg (by omega), List.getElem?_set, if_pos rfl, if_pos (by omega)]
    · rw [List.getElem?_set, if_neg (by omega), List.getElem?_set, if_pos rfl, if_pos (by simp; omega)]
    · rw [List.getElem?_set, if_pos rfl, if_pos (by simp; omega)]
  · obtain ⟨b2, f1, f2, f3, f4, f5, f6, f7⟩ := e3 i q (by omega) hq
    refine ⟨b2, f1, f2, by simpa using f3, ?_, ?_, ?_, range_of_block f7 (hkeep b2 f2)⟩
    · rw [List.getElem?_set, if_neg (by omega), List.getElem?_set, if_neg (by omega), List.getElem?_set, if_neg (by omega)]; exact f4
    · rw [List.getElem?_set, if_neg (by omega), List.getElem?_set, if_neg (by omega), List.getElem?_set, if_neg (by omega)]; exact f5
    · rw [List.getElem?_set, if_neg (by omega), List.getElem?_set, if_neg (by omega), List.getElem?_set, if_neg (by omega)]; exact f6
theorem Got.pats {w : World} {n₀ gl : Nat} {l : List (Nat × Sx)} (h : Got w n₀ gl l.length l) (hg : n₀ ≤ gl) : Pats w (fun i => n₀ ≤ i) (some ⟨gl, 0, none⟩) (ints l) := fun i p hp => by
  rw [ints, List.getElem?_map, Option.map_eq_some_iff] at hp
  obtain ⟨q, hq, rfl⟩ := hp
  obtain ⟨cs, e1, e2, e3⟩ := h
  obtain ⟨ba, f1, f2, f3, f4, f5, f6, f7⟩ := e3 i q (List.getElem?_eq_some_iff.1 hq).1 hq
  exact ⟨gl, 0, ba, 0, 64, rfl, hg, f1, e1.lt, f3, Nat.le_refl _, by rw [Nat.zero_add, e1.cell]; exact f4, by rw [Nat.zero_add, e1.cell]; exact f5, by rw [Nat.zero_add, e1.cell]; exact f6, f7⟩

theorem info49' : (Tryz.prog.info? 50).map (fun i => (i.zero, i.size, i.bytes)) = some (some (.agg #[.int .i64 0, .slice none 0 0, .int .u16 0]), 3, 40) := by kernel_rfl
theorem make_pats (n : Nat) (h : n ≤ 65536) (u : World) : ∃ cs : List Value, cs.length = n * 3 ∧ (Instr.makeSlice 43 (.int .i64 (n : Int)) (.int .i64 (n : Int))).run Tryz.prog u =
    .ok (.slice (some ⟨u.heap.size, 0, none⟩) n n) (u.alloc (.cells cs.toArray 50)) := by
  obtain ⟨i0, hi, hz0, hz1, hz2⟩ := info_parts info49'
  have hr := run_make (P := Tryz.prog) u 43 50 i0 _ Tryz.underlying43 hi hz0 .i64 .i64 (n : Int) (n : Int) (by omega) (Int.le_refl _) (by rw [hz2]; omega) (by omega)
  refine ⟨(madeCells (Value.agg #[.int .i64 0, .slice none 0 0, .int .u16 0]).cells (n * i0.size)).toList, by simp [madeCells, hz1], ?_⟩
  simp only [Int.toNat_natCast] at hr
  rw [hr]

set_option maxRecDepth 100000 in
set_option maxHeartbeats 3200000 in
theorem jload_any (hJ : JB w bj b start n seq) (hD : IsDisk sx w S b k) (hd : k.dead = false) (hs : start ≤ 4096) (hn : n ≤ 4096) (l : List (Nat × Sx)) (m : Nat) (hm : l.length = m) (hmm : m ≤ 4096) (hL : Loads k.now start l) (hp : ∀ p ∈ l, p.1 < 65536 ∧ takesB k.safe.length start n (p.1 : Int) = true) :
    Calls Tryz.prog 21 #[.pointer (some ⟨bj, 0, none⟩), .int .i64 (m : Int)] w fun e w' => ∃ g, e = .returned (.tuple #[.slice (some ⟨g, 0, none⟩) m m, .int .i64 0]) ∧ Pats w' (fun i => w.heap.size ≤ i) (some ⟨g, 0, none⟩) (ints l) ∧ Below w.heap.size w w' := by
  have Hlt := Lib.hid hJ.lt
  have H1 := Lib.hid (fun W (hW : Below w.heap.size w W) (i : Nat) (hi : i ≤ 100000) p hp' hq => loadOne_any (i := i) (p := p) (hJ.below hW hJ.lt) (hD.below hW) hd hs hi hp' hq)
  have H2 := Lib.hid (fun W (hW : Below w.heap.size w W) (s : Int) => takes_any W S bj b start n seq k (hJ.below hW hJ.lt) (hD.below hW) hs hn s)
  have HL := Lib.hid hL
  have Hp := Lib.hid hp
  have Hm := Lib.hid hm
  clear hJ hD hd hL hp hm
  obtain ⟨cs, hcl, hmk⟩ := make_pats m (by omega) w
  go_enter Tryz.func21, Tryz.ntmps21
  have hb0 : Below w.heap.size w (w.alloc (.cells cs.toArray 50)) := (Below.refl _ _).alloc (Nat.le_refl _) _
  have Hb0 := Lib.hid hb0
  have HG0 : Hid (Got (w.alloc (.cells cs.toArray 50)) w.heap.size w.heap.size 0 l) := ⟨cs, Bk.new w 50 cs, by rw [hcl, Hm.out], fun i p hi _ => absurd hi (Nat.not_lt_zero _)⟩
  clear hb0 hcl
  go_wp2
  go_step3
  go_wp2
  go_loopw [6, 8, 13] (fun _ _ i wr => ∃ j : Nat, j ≤ m ∧ i = .int .i64 (j : Int) ∧ Got wr w.heap.size w.heap.size j l ∧ Below w.heap.size w wr ∧ w.heap.size < wr.heap.size) (fun _ _ i _ => m - (intOf i).toNat)
  case atStart => exact ⟨0, Nat.zero_le _, rfl, HG0.out, Hb0.out, by simp⟩
  case round =>
    obtain ⟨j, hj, rfl, hG, hB, hlt0⟩ := hrel
    have HG := Lib.hid hG
    have HB := Lib.hid hB
    clear hG hB
    by_cases hlt : j < m
    · obtain ⟨p, hp⟩ : ∃ p, l[j]? = some p := ⟨_, List.getElem?_eq_getElem (by rw [Hm.out]; exact hlt)⟩
      have Hpj := Lib.hid hp
      have hpv := Hp.out p (List.mem_of_getElem? hp)
      have h1 := H1.out wr HB.out j (by omega) p (HL.out j p hp) hpv.1
      have htk := Lib.hid hpv.2
      have Hlt0 := Lib.hid hlt0
      have hnext := Lib.hid (fun W ba (hW : Got W w.heap.size w.heap.size j l) => hW.set p hp ba)
      obtain ⟨s, x⟩ := p
      simp only at h1 htk hnext
      obtain ⟨t, ht⟩ : ∃ t : Int, t = x.t := ⟨_, rfl⟩
      rw [← ht] at h1 hnext
      have H1' := Lib.hid h1
      clear hp hpv h1 hlt0 ht
      go_wp2_with fail
      refine H1'.out.mono ?_
      rintro e w1 ⟨ba, rfl, hba1, hba2, hr, hb1⟩
      have hne : ba ≠ w.heap.size := by have := Hlt0.out; omega
      obtain ⟨cs1, f1, f2, f3⟩ := HG.out.below hb1
      have HG1 := Lib.hid (HG.out.below hb1)
      have hjl : j * 3 + 2 < cs1.length := by rw [f2, Hm.out]; omega
      have z0 : ∃ u, w1.cell? ⟨w.heap.size, j * 3, none⟩ = some u := ⟨_, (f1.cell (j * 3)).trans (List.getElem?_eq_getElem (by omega))⟩
      have z1 : ∃ u, w1.cell? ⟨w.heap.size, j * 3 + 1, none⟩ = some u := ⟨_, (f1.cell (j * 3 + 1)).trans (List.getElem?_eq_getElem (by omega))⟩
      have z2 : ∃ u, w1.cell? ⟨w.heap.size, j * 3 + 2, none⟩ = some u := ⟨_, (f1.cell (j * 3 + 2)).trans (List.getElem?_eq_getElem (by omega))⟩
      obtain ⟨u0, z0⟩ := z0
      obtain ⟨u1, z1⟩ := z1
      obtain ⟨u2, z2⟩ := z2
      have fz0 := f1.frozen (j * 3)
      have fz1 := f1.frozen (j * 3 + 1)
      have fz2 := f1.frozen (j * 3 + 2)
      have hgot := hnext.out w1 ba HG1.out (by have := HB.out.size; omega) hne hba2 hr
      have HB1 := Lib.hid ((((HB.out.trans (hb1.mono HB.out.size)).setCell (p := ⟨w.heap.size, j * 3, none⟩) (Nat.le_refl _) (.int .i64 (s : Int))).setCell (p := ⟨w.heap.size, j * 3 + 1, none⟩) (Nat.le_refl _) (.slice (some ⟨ba, 0, none⟩) 64 64)).setCell (p := ⟨w.heap.size, j * 3 + 2, none⟩) (Nat.le_refl _) (.int .u16 t))
      have HG2 := Lib.hid hgot
      have hc3 : (((w1.setCell ⟨w.heap.size, j * 3, none⟩ (.int .i64 (s : Int))).setCell ⟨w.heap.size, j * 3 + 1, none⟩ (.slice (some ⟨ba, 0, none⟩) 64 64)).setCell ⟨w.heap.size, j * 3 + 2, none⟩ (.int .u16 t)).cell? ⟨w.heap.size, j * 3, none⟩ = some (.int .i64 (s : Int)) := by
        rw [(((f1.set (j * 3) _).set (j * 3 + 1) _).set (j * 3 + 2) _).cell, List.getElem?_set, if_neg (by omega), List.getElem?_set, if_neg (by omega), List.getElem?_set, if_pos rfl, if_pos (by omega)]
      have hsz3 : w.heap.size < w1.heap.size := Nat.lt_of_lt_of_le Hlt0.out hb1.size
      clear f1 f2 f3 hjl hr hb1 hgot hba1 hba2 hne
      go_wp2_with fail
      refine (H2.out _ HB1.out (s : Int)).mono ?_
      rintro e w2 ⟨rfl, hb2⟩
      rw [htk.out]
      have HG3 := Lib.hid (HG2.out.below hb2)
      have HB3 := Lib.hid (HB1.out.trans (hb2.mono HB1.out.size))
      have hsz4 : w.heap.size < w2.heap.size := Nat.lt_of_lt_of_le (by simpa using hsz3) hb2.size
      clear hb2
      go_wp2
      go_roundw
      case rel => exact ⟨j + 1, by omega, by go_num, HG3.out, HB3.out, hsz4⟩
      case measure => simp [intOf]; omega
    · obtain rfl : j = m := by omega
      go_wp2
      rw [Exit.noGoto_ret]
      go_ret2
      refine ⟨w.heap.size, rfl, ?_, HB.out⟩
      have h := HG.out
      rw [← Hm.out] at h
      exact h.pats (Nat.le_refl _)
end
end Go.Proofs.YtaflpigpeckhoaaGreat

/-
  slices.Chunk over patches: its closure's contract.
-/
namespace Go.Proofs.YtaflpigpeckhoaaGreat
open Go.RowKit Go.Shelf

attribute [local go_sem] Oper.semAt_some

/-- The two boxes that the closure reads lie as they lay. -/
def Two (B1 B2 : Nat) (W W' : World) : Prop := W'.heap[B1]? = W.heap[B1]? ∧ W'.heap[B2]? = W.heap[B2]?
theorem Two.refl (B1 B2 : Nat) (W : World) : Two B1 B2 W W := ⟨rfl, rfl⟩
theorem Two.trans {B1 B2 : Nat} {A B C : World} (h : Two B1 B2 A B) (k : Two B1 B2 B C) : Two B1 B2 A C := ⟨k.1.trans h.1, k.2.trans h.2⟩
theorem Two.drew {B1 B2 : Nat} {A B : World} (h : Two B1 B2 A B) : Two B1 B2 A B.drew := h
theorem Two.one {B1 B2 : Nat} {A B : World} (h : Two B1 B2 A B) : B.cell? ⟨B1, 0, none⟩ = A.cell? ⟨B1, 0, none⟩ := World.cell?_of_block (a := ⟨B1, 0, none⟩) h.1
theorem Two.two {B1 B2 : Nat} {A B : World} (h : Two B1 B2 A B) : B.cell? ⟨B2, 0, none⟩ = A.cell? ⟨B2, 0, none⟩ := World.cell?_of_block (a := ⟨B2, 0, none⟩) h.2
theorem Two.below {B1 B2 B : Nat} {W W' : World} (h : Below B W W') (h1 : B1 < B) (h2 : B2 < B) : Two B1 B2 W W' := ⟨h.block B1 h1, h.block B2 h2⟩
/-- The value of a chunk. -/
def chunkV (b o m c : Nat) : Value := .slice (some ⟨b, o + 15 * c * 3, none⟩) (min 15 (m - 15 * c)) (min 15 (m - 15 * c))

set_option maxRecDepth 100000 in
set_option maxHeartbeats 2000000 in
theorem chunk1_in (n : Nat) (hn : 1 ≤ n) (l B1 B2 b o m cp : Nat) (hm : m ≤ 1000000) (hcp : m ≤ cp) (J Jx : List Nat → World → Prop) (hJd : ∀ pre W, J pre W → J pre W.drew)
    (hY : ∀ pre x W, J pre W → 15 * pre.length < m → 15 * x < m → YieldAt Fence.wide (n - 1) Tryz.prog l #[chunkV b o m x] W fun e W' =>
      (e = .returned (.bool true) ∧ J (pre ++ [x]) W' ∧ Two B1 B2 W W') ∨ (e = .returned (.bool false) ∧ Jx (pre ++ [x]) W'))
    (W : World) (h1 : W.cell? ⟨B1, 0, none⟩ = some (.slice (some ⟨b, o, none⟩) m cp)) (h2 : W.cell? ⟨B2, 0, none⟩ = some (.int .i64 15)) (h0 : J [] W) :
    CallsIn Fence.wide n Tryz.prog 95 #[.func (.yield l) #[] #[], .pointer (some ⟨B1, 0, none⟩), .pointer (some ⟨B2, 0, none⟩)] W fun e W' => (∃ v, e = .returned v) ∧
      ((∃ ys, ys = List.range ((m + 14) / 15) ∧ J ys W') ∨ (∃ pre, True ∧ Jx pre W')) := by
  refine callsIn_of_wp Tryz.func95 rfl trivial ?_ rfl
  simp only [Tryz.ntmps95, List.size_toArray, List.length_cons, List.length_nil, Nat.reduceAdd, Nat.reduceSub, Array.replicate_succ, Array.replicate_zero, List.push_toArray, List.append_toArray, List.nil_append, List.cons_append]
  gi_wp2
  gi_loopw [4, 5] (fun i _ wr => ∃ k : Nat, (k = 0 ∨ 15 * (k - 1) < m) ∧ i = .int .i64 ((15 * k : Nat) : Int) ∧ J (List.range k) wr ∧ Two B1 B2 W wr)
    (fun i _ _ => m - (intOf i).toNat)
  case atStart => exact ⟨0, .inl rfl, rfl, h0, Two.refl _ _ _⟩
  case round =>
    obtain ⟨k, hk, rfl, hJs, hnx⟩ := hrel
    have c1 := hnx.one.trans h1
    have c2 := hnx.two.trans h2
    obtain ⟨i, hi⟩ : ∃ i, i = 15 * k := ⟨_, rfl⟩
    rw [← hi]
    have Hi := Lib.hid hi
    have HJ := Lib.hid hJs
    have Hnx := Lib.hid hnx
    have Hk := Lib.hid hk
    clear hi hJs hnx hk
    by_cases hlt : i < m
    · obtain ⟨fn, tmps, assign, body, hy, hR⟩ := hY (List.range k) k wr.drew (hJd _ _ HJ.out) (by rw [List.length_range]; have := Hi.out; omega) (by have := Hi.out; omega)
      obtain ⟨e, he⟩ : ∃ e : Nat, e = min 15 (m - i) := ⟨_, rfl⟩
      have hif : (if ((m - i : Nat) : Int) < 15 then ((m - i : Nat) : Int) else 15) = (e : Int) := by
        split <;> omega
      have hchunk : chunkV b o m k = .slice (some ⟨b, o + i * 3, none⟩) e e := by
        unfold chunkV
        rw [← Hi.out, ← he]
      rw [hchunk] at hy
      have hei : (i : Int) + (e : Int) ≤ (m : Int) := by omega
      have he1 : 0 < e := by omega
      have He := Lib.hid he
      have Hif := Lib.hid hif
      clear hchunk he hif
      gi_wp2
      gi_region
      all_goals rw [Hif.out]
      all_goals gi_wp2
      refine hR.mono ?_
      rintro e W3 (⟨rfl, hJ3, hk3⟩ | ⟨rfl, hJx3⟩)
      · have c3 := hk3.two.trans c2
        have A1 : Hid (J (List.range (k + 1)) W3) := by
          show J _ _
          rw [List.range_succ]; exact hJ3
        have A2 : Hid (Two B1 B2 W W3) := Hnx.out.drew.trans hk3
        clear hJ3 hk3 c1 c2
        have h15 : (i : Int) + 15 = ((15 * (k + 1) : Nat) : Int) := by have := Hi.out; omega
        have H15 := Lib.hid h15
        clear h15
        gi_wp2
        go_roundw
        case rel => exact ⟨k + 1, .inr (by have := Hi.out; omega), by rw [H15.out], A1.out, A2.out⟩
        case measure => simp [intOf]; omega
      · gi_wp2
        refine bodyPost_ret (results_none rfl _ _ _) rfl ?_
        exact ⟨⟨_, rfl⟩, .inr ⟨_, trivial, hJx3⟩⟩
    · have hkk : k = (m + 14) / 15 := by have := Hi.out; have := Hk.out; omega
      gi_wp2
      go_end0
      exact ⟨⟨_, rfl⟩, .inl ⟨_, by rw [hkk], HJ.out⟩⟩

/-- slices.Chunk(l, 15). -/
theorem chunk_in (n : Nat) (A : Option Addr) (m c : Nat) (w : World) :
    CallsIn Fence.wide n Tryz.prog 63 #[.slice A m c, .int .i64 15] w fun e w' => e = .returned (.func (.func 95) #[] #[.pointer (some ⟨w.heap.size, 0, none⟩), .pointer (some ⟨w.heap.size + 1, 0, none⟩)]) ∧
      w' = (w.alloc (.cells #[.slice A m c] 43)).alloc (.cells #[.int .i64 15] 3) := by
  refine callsIn_of_wp Tryz.func63 rfl trivial ?_ rfl
  simp only [Tryz.ntmps63, List.size_toArray, List.length_cons, List.length_nil, Nat.reduceAdd, Nat.reduceSub, Array.replicate_succ, Array.replicate_zero, List.push_toArray, List.append_toArray, List.nil_append, List.cons_append]
  gi_wp2
  go_ret
  exact ⟨rfl, rfl⟩

theorem chunk_stops (n : Nat) (hn : 1 ≤ n) (B1 B2 b o m cp : Nat) (hm : m ≤ 1000000) (hcp : m ≤ cp) (w : World) (hB1 : B1 < w.heap.size) (hB2 : B2 < w.heap.size)
    (h1 : w.cell? ⟨B1, 0, none⟩ = some (.slice (some ⟨b, o, none⟩) m cp)) (h2 : w.cell? ⟨B2, 0, none⟩ = some (.int .i64 15)) :
    SeqStopsK Fence.wide n Tryz.prog 95 #[.pointer (some ⟨B1, 0, none⟩), .pointer (some ⟨B2, 0, none⟩)] (fun x : { c : Nat // 15 * c < m } => #[chunkV b o m x.1]) (Two B1 B2)
      (fun ys => ys.map (·.1) = List.range ((m + 14) / 15)) (fun _ => True) ((m + 14) / 15) w := fun l J Jx W hW hJ hJx hY h0 => by
  refine (chunk1_in n hn l B1 B2 b o m cp hm hcp (fun ys W => ∃ xs : List { c : Nat // 15 * c < m }, xs.map (·.1) = ys ∧ J xs W) (fun ys W => ∃ xs, Jx xs W)
    (fun ys W ⟨xs, h, hj⟩ => ⟨xs, h, hJ _ _ W.drew none hj ⟨rfl, rfl, rfl, Nat.le_refl _, fun _ _ _ => rfl⟩ (fun r e => by cases e)⟩) ?_ W ((hW.cell (p := ⟨B1, 0, none⟩) hB1).trans h1) ((hW.cell (p := ⟨B2, 0, none⟩) hB2).trans h2) ⟨[], rfl, h0⟩).mono ?_
  · rintro pre x W1 ⟨xs, hxs, hj⟩ hlen hx
    have hl : xs.length = pre.length := by rw [← hxs, List.length_map]
    obtain ⟨fn, tmps, assign, body, hy, hR⟩ := hY xs ⟨x, hx⟩ W1 hj (by omega)
    refine ⟨fn, tmps, assign, body, hy, hR.mono ?_⟩
    rintro e W' (⟨rfl, h3, h4⟩ | ⟨rfl, h3⟩)
    · exact .inl ⟨rfl, ⟨xs ++ [⟨x, hx⟩], by rw [List.map_append, hxs]; rfl, h3⟩, h4⟩
    · exact .inr ⟨rfl, _, h3⟩
  · rintro e W' ⟨he, ⟨ys, rfl, xs, hx, hj⟩ | ⟨_, _, xs, hj⟩⟩
    · exact ⟨he, .inl ⟨xs, hx, hj⟩⟩
    · exact ⟨he, .inr ⟨xs, trivial, hj⟩⟩
end Go.Proofs.YtaflpigpeckhoaaGreat

/-
  How patches are stored: a list ahead of each fifteen of them.
-/
namespace Go.Proofs.YtaflpigpeckhoaaGreat
open Go.RowKit Go.Shelf

attribute [local go_sem] Oper.semAt_some

theorem info49 : (Tryz.prog.info? 50).map (fun i => (i.zero, i.size, i.bytes)) = some (some (.agg #[.int .i64 0, .slice none 0 0, .int .u16 0]), 3, 40) := by kernel_rfl

/-- A patch's cells. -/
def PatV (W : World) (T : Nat → Prop) (cs : List Value) (x : Sx) : Prop :=
  ∃ s ba oa cp, cs = [.int .i64 s, .slice (some ⟨ba, oa, none⟩) 64 cp, .int .u16 (x.t : Int)] ∧ T ba ∧ ba < W.heap.size ∧ 64 ≤ cp ∧ W.rangeAt ba oa (bytesV x.b)
def Elems (W : World) (T : Nat → Prop) (L : List (List Value)) (xs : List Sx) : Prop := L.length = xs.length ∧ ∀ (k : Nat) (cs : List Value) (x : Sx), L[k]? = some cs → xs[k]? = some x → PatV W T cs x
theorem PatV.len {W : World} {T : Nat → Prop} {cs : List Value} {x : Sx} (h : PatV W T cs x) : cs.length = 3 := by
  obtain ⟨s, ba, oa, cp, rfl, _⟩ := h; rfl
theorem PatV.one {W : World} {T : Nat → Prop} {cs : List Value} {x : Sx} (h : PatV W T cs x) : ∀ u ∈ cs, u.oneCell' = true := by
  obtain ⟨s, ba, oa, cp, rfl, _⟩ := h
  intro u hu
  simp only [List.mem_cons, List.not_mem_nil, or_false] at hu
  rcases hu with rfl | rfl | rfl <;> rfl
theorem PatV.keep {W W' : World} {T : Nat → Prop} {cs : List Value} {x : Sx} (h : PatV W T cs x) (hs : W.heap.size ≤ W'.heap.size) (hk : ∀ a v, W.cell? a = some v → T a.block → W'.cell? a = some v) : PatV W' T cs x := by
  obtain ⟨s, ba, oa, cp, h1, h2, h3, h4, h5⟩ := h
  exact ⟨s, ba, oa, cp, h1, h2, by omega, h4, fun j v hv => hk _ _ (h5 j v hv) h2⟩
theorem Elems.keep {W W' : World} {T : Nat → Prop} {L : List (List Value)} {xs : List Sx} (h : Elems W T L xs) (hs : W.heap.size ≤ W'.heap.size) (hk : ∀ a v, W.cell? a = some v → T a.block → W'.cell? a = some v) : Elems W' T L xs :=
  ⟨h.1, fun k cs x h1 h2 => (h.2 k cs x h1 h2).keep hs hk⟩
theorem Elems.get {W : World} {T : Nat → Prop} {L : List (List Value)} {xs : List Sx} (h : Elems W T L xs) {k : Nat} {cs : List Value} (hk : L[k]? = some cs) : ∃ x, xs[k]? = some x ∧ PatV W T cs x := by
  have hlt := (List.getElem?_eq_some_iff.1 hk).1
  obtain ⟨x, hx⟩ : ∃ x, xs[k]? = some x := ⟨_, List.getElem?_eq_getElem (by rw [← h.1]; exact hlt)⟩
  exact ⟨x, hx, h.2 k cs x hk hx⟩
theorem Elems.lens {W : World} {T : Nat → Prop} {L : List (List Value)} {xs : List Sx} (h : Elems W T L xs) : ∀ c ∈ L, c.length = 3 := fun c hc => by
  obtain ⟨k, hk⟩ := List.mem_iff_getElem?.1 hc
  obtain ⟨x, _, hx⟩ := h.get hk
  exact hx.len
theorem Elems.append {W : World} {T : Nat → Prop} {L M : List (List Value)} {xs ys : List Sx} (h : Elems W T L xs) (h' : Elems W T M ys) : Elems W T (L ++ M) (xs ++ ys) := by
  refine ⟨by rw [List.length_append, List.length_append, h.1, h'.1], fun k cs x h1 h2 => ?_⟩
  rcases Nat.lt_or_ge k L.length with hk | hk
  · rw [List.getElem?_append_left hk] at h1
    rw [List.getElem?_append_left (by rw [← h.1]; exact hk)] at h2
    exact h.2 k cs x h1 h2
  · rw [List.getElem?_append_right hk] at h1
    rw [List.getElem?_append_right (by rw [← h.1]; exact hk), ← h.1] at h2
    exact h'.2 _ cs x h1 h2
theorem Elems.nil (W : World) (T : Nat → Prop) : Elems W T [] [] := ⟨rfl, fun k cs x h => by simp at h⟩
theorem Elems.one {W : World} {T : Nat → Prop} {cs : List Value} {x : Sx} (h : PatV W T cs x) : Elems W T [cs] [x] := ⟨rfl, fun k cs' x' h1 h2 => by
  cases k with
  | zero => simp at h1 h2; subst h1; subst h2; exact h
  | succ k => simp at h1⟩

/-- The variable s holds a slice of them; U: the blocks of their bytes. -/
structure Held (n₀ Bs : Nat) (T U : Nat → Prop) (v : Value) (L : List (List Value)) (xs : List Sx) (W : World) : Prop where
  box : Boxed W Bs 43 v
  own : W.ownsRow n₀ 50 3 v L.length L.flatten
  els : Elems W U L xs
  ins : ∀ i, U i → (T i ∧ i < n₀) ∨ n₀ ≤ i
  low : ∀ i, U i → i < W.heap.size
  nbox : ¬ U Bs
  nown : ∀ g, v.ownBlock = some g → ¬ U g
def Hold (n₀ Bs : Nat) (T : Nat → Prop) (xs : List Sx) (W : World) : Prop := ∃ U v L, Held n₀ Bs T U v L xs W
theorem hold_own {β : Type} (n₀ Bs : Nat) (T : Nat → Prop) (f : β → List Sx) : Own (fun s W => Hold n₀ Bs T (f s) W) := by
  rintro s X Y row ⟨U, v, L, hv, hr, hE, h4, h5, h6, h7⟩ hg hrow
  refine ⟨U, v, L, hv.kept hg (fun e' => ?_), hr.kept hg ?_, hE.keep hg.size fun a u hc _ => cell_kept hc hg hrow, h4, fun i hi => Nat.lt_of_lt_of_le (h5 i hi) hg.size, h6, h7⟩
  · obtain ⟨o, ho, hc⟩ := hrow Bs e'.symm
    rw [show X.heap[Bs]? = _ from hv] at ho; cases ho; cases hc
  · rcases hr.2 with ⟨rfl, _⟩ | ⟨g, cap, cur, rfl, _, hgb, _⟩
    · exact .inl rfl
    · refine .inr fun e' => ?_
      obtain ⟨o, ho, hc⟩ := hrow g (by simpa [Value.ownBlock] using e'.symm)
      rw [hgb] at ho; cases ho; cases hc

/-- Other variables' boxes lie as they lay. -/
def Boxes (Bs : Nat) (W W' : World) : Prop := ∀ k t u, t ≠ 50 → k ≠ Bs → Boxed W k t u → W'.heap[k]? = W.heap[k]?
theorem Boxes.trans {Bs : Nat} {A B C : World} (h : Boxes Bs A B) (k : Boxes Bs B C) : Boxes Bs A C := fun i t u h1 h2 h3 => by
  have h4 := h i t u h1 h2 h3
  exact (k i t u h1 h2 (h4.trans h3)).trans h4
theorem Boxes.of_below {Bs B : Nat} {W W' : World} (h : Below B W W') (hB : W.heap.size ≤ B) : Boxes Bs W W' := fun k _ _ _ _ h3 => h.block k (by have := h3.lt; omega)
/-- More are appended. -/
theorem Held.push {n₀ Bs : Nat} {T U : Nat → Prop} {v : Value} {L M : List (List Value)} {xs ys : List Sx} {W : World} (h : Held n₀ Bs T U v L xs W) (hn₀ : n₀ ≤ W.heap.size) (hBs : n₀ ≤ Bs) (hM : Elems W U M ys) (ad : Addr) (m c : Nat) (hm : M.length = m) (h0 : 0 < m) (hlen : L.length + m ≤ 1000000)
    (hc : ∀ j u, M.flatten[j]? = some u → W.cell? (ad.add j) = some u) :
    ∃ g cap w', (Builtin.append_ #[43, 43] 43 #[v, .slice (some ad) m c]).run Tryz.prog W = .ok (.slice (some ⟨g, 0, none⟩) (L.length + m) cap) w' ∧ w'.cell? ⟨Bs, 0, none⟩ = some v ∧ w'.frozen? ⟨Bs, 0, none⟩ = false ∧ W.heap.size ≤ w'.heap.size ∧
      Held n₀ Bs T U (.slice (some ⟨g, 0, none⟩) (L.length + m) cap) (L ++ M) (xs ++ ys) (w'.setCell ⟨Bs, 0, none⟩ (.slice (some ⟨g, 0, none⟩) (L.length + m) cap)) ∧
      KeepsOthers W (w'.setCell ⟨Bs, 0, none⟩ (.slice (some ⟨g, 0, none⟩) (L.length + m) cap)) ∧ Below n₀ W (w'.setCell ⟨Bs, 0, none⟩ (.slice (some ⟨g, 0, none⟩) (L.length + m) cap))  ∧ Boxes Bs W (w'.setCell ⟨Bs, 0, none⟩ (.slice (some ⟨g, 0, none⟩) (L.length + m) cap)) := by
  obtain ⟨i0, hi, hz0, hz1, hz2⟩ := info_parts info49
  obtain ⟨g, cap, w', hrun, hown, hg, hat, hlt⟩ := run_append_lies (P := Tryz.prog) W 43 43 n₀ 50 i0 _ 3 40 Tryz.underlying43 hi hz0 hz1 hz2 rfl (by decide) v L.length L.flatten h.own ad m c M.flatten (by rw [flat_length hM.lens, hm]) hc (mem_flat_one fun cs hcs => by
    obtain ⟨k, hk⟩ := List.mem_iff_getElem?.1 hcs
    obtain ⟨x, _, hx⟩ := hM.get hk
    exact hx.one) h0 (by simp only [maxLen]; omega) (by omega) hn₀ W.heap.size rfl
  have hbr : some Bs ≠ v.ownBlock := h.box.not_row (by decide) h.own
  have hb1 : Boxed w' Bs 43 v := h.box.kept hg hbr
  have hbs : some Bs ≠ (Value.slice (some ⟨g, 0, none⟩) (L.length + m) cap).ownBlock := hb1.not_row (by decide) hown
  have hsz := hg.size
  have hkeep : ∀ a u, W.cell? a = some u → U a.block → (w'.setCell ⟨Bs, 0, none⟩ (.slice (some ⟨g, 0, none⟩) (L.length + m) cap)).cell? a = some u := fun a u ha hu => by
    have h1 : w'.cell? a = some u := hg.cell ha fun e => h.nown _ e.symm hu
    exact (World.cell?_of_block (Below.heap_setCell w' ⟨Bs, 0, none⟩ _ a.block (fun e => h.nbox (by have e' : a.block = Bs := e; rw [← e']; exact hu)))).trans h1
  refine ⟨g, cap, w', hrun, hb1.cell, hb1.frozen, hsz, ⟨hb1.set _, ?_, ?_, h.ins, fun i hi => ?_, h.nbox, ?_⟩, ?_, ?_, fun k t u hk1 hk2 hk3 => ?_⟩
  · rw [List.length_append, List.flatten_append, hm]
    exact hown.kept (grownBy_setCell' w' Bs _) (.inr hbs.symm)
  · exact (h.els.keep (by simpa using hsz) hkeep).append (hM.keep (by simpa using hsz) hkeep)
  · have := h.low i hi; simpa using Nat.lt_of_lt_of_le this hsz
  · intro g' hg' hu
    obtain rfl : g = g' := by simpa [Value.ownBlock] using hg'
    rcases hat with hat | hat
    · exact h.nown g hat hu
    · have := h.low g hu; omega
  · refine (KeepsOthers.of_grownBy hg fun j o ej hj => ?_).trans (KeepsOthers.setCell _ _ _)
    rcases h.own.2 with ⟨rfl, _⟩ | ⟨g', cap', cur, rfl, _, hgb, _⟩
    · simp [Value.ownBlock] at ej
    · obtain rfl : g' = j := by simpa [Value.ownBlock] using ej
      rw [hgb] at hj; cases hj; rfl
  · refine ((Below.refl n₀ W).grown hg hn₀ fun j ej => ?_).setCell (p := ⟨Bs, 0, none⟩) hBs _
    rcases h.own.2 with ⟨rfl, _⟩ | ⟨g', cap', cur, rfl, hb, _, _⟩
    · simp [Value.ownBlock] at ej
    · obtain rfl : g' = j := by simpa [Value.ownBlock] using ej
      exact hb
  · exact (Below.heap_setCell w' ⟨Bs, 0, none⟩ _ k hk2).trans (hg.block k hk3.lt (hk3.not_row hk1 h.own))

theorem Held.below {n₀ Bs : Nat} {T U : Nat → Prop} {v : Value} {L : List (List Value)} {xs : List Sx} {W W' : World} (h : Held n₀ Bs T U v L xs W) (hb : Below W.heap.size W W') : Held n₀ Bs T U v L xs W' :=
  ⟨(hb.block Bs h.box.lt).trans h.box, own_below h.own hb, h.els.keep hb.size fun _ _ ha hu => (hb.cell (h.low _ hu)).trans ha, h.ins, fun i hi => Nat.lt_of_lt_of_le (h.low i hi) hb.size, h.nbox, h.nown⟩
theorem Held.wider {n₀ Bs : Nat} {T U V : Nat → Prop} {v : Value} {L : List (List Value)} {xs : List Sx} {W : World} (h : Held n₀ Bs T U v L xs W) (h1 : ∀ i, V i → (T i ∧ i < n₀) ∨ n₀ ≤ i) (h2 : ∀ i, V i → i < W.heap.size) (h3 : ¬ V Bs) (h4 : ∀ g, v.ownBlock = some g → ¬ V g) :
    Held n₀ Bs T (fun i => U i ∨ V i) v L xs W :=
  ⟨h.box, h.own, ⟨h.els.1, fun k cs x hk hx => by obtain ⟨s, ba, oa, cp, e1, e2, e3⟩ := h.els.2 k cs x hk hx; exact ⟨s, ba, oa, cp, e1, .inl e2, e3⟩⟩, fun i hi => hi.elim (h.ins i) (h1 i), fun i hi => hi.elim (h.low i) (h2 i), fun hi => hi.elim h.nbox h3, fun g hg hi => hi.elim (h.nown g hg) (h4 g hg)⟩
theorem Held.ownLow {n₀ Bs : Nat} {T U : Nat → Prop} {v : Value} {L : List (List Value)} {xs : List Sx} {W : World} (h : Held n₀ Bs T U v L xs W) {g : Nat} (hg : v.ownBlock = some g) : n₀ ≤ g ∧ g < W.heap.size := by
  rcases h.own.2 with ⟨rfl, _⟩ | ⟨g', cap', cur, rfl, hb, hgb, _⟩
  · simp [Value.ownBlock] at hg
  · obtain rfl : g' = g := by simpa [Value.ownBlock] using hg
    exact ⟨hb, (Array.getElem?_eq_some_iff.1 hgb).1⟩

/-- A list is appended. -/
theorem Held.list {n₀ Bs : Nat} {T U : Nat → Prop} {v : Value} {L : List (List Value)} {xs : List Sx} {W w4 : World} (h : Held n₀ Bs T U v L xs W) (hn₀ : n₀ ≤ W.heap.size) (hBs : n₀ ≤ Bs) (hb : Below W.heap.size W w4) {g1 cc : Nat} {q : List (Nat × Sx)} (hg1 : W.heap.size ≤ g1) (hg2 : g1 < w4.heap.size) (hcc : 64 ≤ cc)
    (hr : w4.rangeAt g1 0 (bytesV (listB q))) (hlen : L.length ≤ 900000) :
    ∃ U' g cap w', (Builtin.append_ #[43, 43] 43 #[v, .slice (some ⟨w4.heap.size, 0, none⟩) 1 1]).run Tryz.prog (w4.alloc (.cells #[.int .i64 0, .slice (some ⟨g1, 0, none⟩) 64 cc, .int .u16 0] 50)) = .ok (.slice (some ⟨g, 0, none⟩) (L.length + 1) cap) w' ∧ w'.cell? ⟨Bs, 0, none⟩ = some v ∧ w'.frozen? ⟨Bs, 0, none⟩ = false ∧
      Held n₀ Bs T U' (.slice (some ⟨g, 0, none⟩) (L.length + 1) cap) (L ++ [[.int .i64 0, .slice (some ⟨g1, 0, none⟩) 64 cc, .int .u16 0]]) (xs ++ [listS q]) (w'.setCell ⟨Bs, 0, none⟩ (.slice (some ⟨g, 0, none⟩) (L.length + 1) cap)) ∧
      KeepsOthers W (w'.setCell ⟨Bs, 0, none⟩ (.slice (some ⟨g, 0, none⟩) (L.length + 1) cap)) ∧ Below n₀ W (w'.setCell ⟨Bs, 0, none⟩ (.slice (some ⟨g, 0, none⟩) (L.length + 1) cap))  ∧ Boxes Bs W (w'.setCell ⟨Bs, 0, none⟩ (.slice (some ⟨g, 0, none⟩) (L.length + 1) cap)) := by
  have hb5 : Below W.heap.size W (w4.alloc (.cells #[.int .i64 0, .slice (some ⟨g1, 0, none⟩) 64 cc, .int .u16 0] 50)) := hb.alloc hb.size _
  have h5 := (h.below hb5).wider (V := fun i => i = g1) (fun i hi => by have hi' : i = g1 := hi; right; omega) (fun i hi => by have hi' : i = g1 := hi; simp; omega) (fun e => by have e' : Bs = g1 := e; have := h.box.lt; omega) (fun g hg e => by have e' : g = g1 := e; have := (h.ownLow hg).2; omega)
  obtain ⟨g, cap, w', h1, h2, h3, h4, h6, h7, h8, h9⟩ := h5.push (by have := hb5.size; omega) hBs (M := [[.int .i64 0, .slice (some ⟨g1, 0, none⟩) 64 cc, .int .u16 0]]) (ys := [listS q])
    (Elems.one ⟨0, g1, 0, cc, rfl, .inr rfl, by simp; omega, hcc, World.rangeAt_alloc hr _⟩) ⟨w4.heap.size, 0, none⟩ 1 1 rfl (by omega) (by omega)
    (World.news_of_block (cs := #[.int .i64 0, .slice (some ⟨g1, 0, none⟩) 64 cc, .int .u16 0]) (heap_alloc_new w4 _))
  have ko : KeepsOthers W (w4.alloc (.cells #[.int .i64 0, .slice (some ⟨g1, 0, none⟩) 64 cc, .int .u16 0] 50)) := ⟨hb5.size, fun k o hk _ => (hb5.block k (Array.getElem?_eq_some_iff.1 hk).1).trans hk⟩
  exact ⟨_, g, cap, w', h1, h2, h3, h6, ko.trans h7, (hb5.mono hn₀).trans h8, (Boxes.of_below hb5 (Nat.le_refl _)).trans h9⟩

/-- The cells of patches. -/
theorem pats_cells {W : World} {T : Nat → Prop} {b o : Nat} {q : List (Nat × Sx)} (h : Pats W T (some ⟨b, o, none⟩) (ints q)) : ∃ M, Elems W T M (q.map (·.2)) ∧ ∀ j u, M.flatten[j]? = some u → W.cell? ((⟨b, o, none⟩ : Addr).add j) = some u := by
  have hk : ∀ (k : Nat) (p : Nat × Sx), q[k]? = some p → PatV W T [(W.cell? ⟨b, o + k * 3, none⟩).getD undef, (W.cell? ⟨b, o + k * 3 + 1, none⟩).getD undef, (W.cell? ⟨b, o + k * 3 + 2, none⟩).getD undef] p.2 ∧
      ∀ j u, [(W.cell? ⟨b, o + k * 3, none⟩).getD undef, (W.cell? ⟨b, o + k * 3 + 1, none⟩).getD undef, (W.cell? ⟨b, o + k * 3 + 2, none⟩).getD undef][j]? = some u → W.cell? ⟨b, o + (k * 3 + j), none⟩ = some u := fun k p hp => by
    obtain ⟨b', o', ba, oa, cp, e1, e2, e3, e4, e5, e6, e7, e8, e9, e10⟩ := h k _ (ints_get hp)
    cases e1
    rw [e7, e8, e9]
    refine ⟨⟨p.1, ba, oa, cp, rfl, e3, e5, e6, e10⟩, fun j u hu => ?_⟩
    match j, hu with
    | 0, hu => rw [Nat.add_zero, e7]; simpa using hu
    | 1, hu => rw [← Nat.add_assoc, e8]; simpa using hu
    | 2, hu => rw [← Nat.add_assoc, e9]; simpa using hu
    | j + 3, hu => simp at hu
  refine ⟨(List.range q.length).map fun k => [(W.cell? ⟨b, o + k * 3, none⟩).getD undef, (W.cell? ⟨b, o + k * 3 + 1, none⟩).getD undef, (W.cell? ⟨b, o + k * 3 + 2, none⟩).getD undef], ⟨by simp, fun k cs x h1 h2 => ?_⟩, fun j u hu => ?_⟩
  · rw [List.getElem?_map, Option.map_eq_some_iff] at h1 h2
    obtain ⟨k', hk', rfl⟩ := h1
    obtain ⟨p, hp, rfl⟩ := h2
    rw [List.getElem?_range (List.getElem?_eq_some_iff.1 hp).1] at hk'
    cases hk'
    exact (hk k p hp).1
  · obtain ⟨i, k, c, rfl, hk3, hi, hc⟩ := flat_of (size := 3) (by omega) (fun c hc => by
      obtain ⟨k, _, rfl⟩ := List.mem_map.1 hc
      rfl) hu
    rw [List.getElem?_map, Option.map_eq_some_iff] at hi
    obtain ⟨k', hk', rfl⟩ := hi
    have hlt := (List.getElem?_eq_some_iff.1 hk').1
    rw [List.length_range] at hlt
    rw [List.getElem?_range hlt] at hk'
    cases hk'
    have := (hk i _ (List.getElem?_eq_getElem hlt)).2 k u hc
    rw [Addr.add_mid]
    exact this

/-- A group is appended. -/
theorem Held.group {n₀ Bs : Nat} {T U : Nat → Prop} {v : Value} {L : List (List Value)} {xs : List Sx} {W : World} (h : Held n₀ Bs T U v L xs W) (hn₀ : n₀ ≤ W.heap.size) (hBs : n₀ ≤ Bs) {b o : Nat} {q : List (Nat × Sx)} (hP : Pats W (fun i => T i ∧ i < n₀) (some ⟨b, o, none⟩) (ints q)) (e : Nat) (he : q.length = e) (h0 : 0 < e) (c : Nat) (hlen : L.length + e ≤ 1000000) :
    ∃ U' M g cap w', M.length = e ∧ (Builtin.append_ #[43, 43] 43 #[v, .slice (some ⟨b, o, none⟩) e c]).run Tryz.prog W = .ok (.slice (some ⟨g, 0, none⟩) (L.length + e) cap) w' ∧ w'.cell? ⟨Bs, 0, none⟩ = some v ∧ w'.frozen? ⟨Bs, 0, none⟩ = false ∧
      Held n₀ Bs T U' (.slice (some ⟨g, 0, none⟩) (L.length + e) cap) (L ++ M) (xs ++ q.map (·.2)) (w'.setCell ⟨Bs, 0, none⟩ (.slice (some ⟨g, 0, none⟩) (L.length + e) cap)) ∧
      KeepsOthers W (w'.setCell ⟨Bs, 0, none⟩ (.slice (some ⟨g, 0, none⟩) (L.length + e) cap)) ∧ Below n₀ W (w'.setCell ⟨Bs, 0, none⟩ (.slice (some ⟨g, 0, none⟩) (L.length + e) cap))  ∧ Boxes Bs W (w'.setCell ⟨Bs, 0, none⟩ (.slice (some ⟨g, 0, none⟩) (L.length + e) cap)) := by
  obtain ⟨M, hM, hc⟩ := pats_cells hP
  have h5 := h.wider (V := fun i => T i ∧ i < n₀) (fun i hi => .inl hi) (fun i hi => by have := hi.2; omega) (fun hi => by have := hi.2; omega) (fun g hg hi => by have := (h.ownLow hg).1; have := hi.2; omega)
  have hM' : Elems W (fun i => U i ∨ (T i ∧ i < n₀)) M (q.map (·.2)) := ⟨hM.1, fun k cs x hk hx => by obtain ⟨s, ba, oa, cp, e1, e2, e3⟩ := hM.2 k cs x hk hx; exact ⟨s, ba, oa, cp, e1, .inr e2, e3⟩⟩
  have hMl : M.length = e := by rw [hM.1, List.length_map, he]
  obtain ⟨g, cap, w', h1, h2, h3, h4, h6, h7, h8, h9⟩ := h5.push hn₀ hBs hM' ⟨b, o, none⟩ e c hMl h0 hlen hc
  exact ⟨_, M, g, cap, w', hMl, h1, h2, h3, h6, h7, h8, h9⟩

theorem twoLt {W3 W : World} {k : Nat} {t : TypeId} {u : Value} (h : W.heap[k]? = W3.heap[k]?) (hb : Boxed W3 k t u) : k < W.heap.size := (Array.getElem?_eq_some_iff.1 (h.trans hb)).1
/-- append at a step of a drawn region inside a fence. -/
theorem stepIn_append_run {F : Fence} {n : Nat} {P : Program} {w w' : World} {ops : Array Oper} {o : Oper} {a : Act} {K : Act → World → Prop} {Q : Exit → Act → World → Prop} {E : Prop} (hgd : o.guard = none) (s x : Operand) (t : TypeId)
    (hop : o.op = Op.call { callee := Callee.builtin Builtin.append, args := #[s, x], argTypes := #[t, t] }) {v u r : Value} (hs : a.eval s = v) (hx : a.eval x = u) (hrun : (Builtin.append_ #[t, t] o.type #[v, u]).run P w = .ok r w') (h : K (a.put o.dst r) w') :
    if Region.wanted o (yielded ops a.tmps) = true then Oper.wpIn F n P o a w K Q else E := by
  have hw : Region.wanted o (yielded ops a.tmps) = true := by simp [Region.wanted, hgd]
  rw [if_pos hw]
  unfold Oper.wpIn
  refine ⟨?_, ?_⟩
  · simp [Oper.about, hop, resolve, Target.leads, Sem.run_pure]
  · rw [Oper.semAt_plain F _ _ (by rw [hop]; intro c hc'; cases hc')]
    simp [execOp, hop, resolve, invoke, builtin, hs, hx, hrun, Result.andThen]
    exact h
theorem wpListIn_append_run {F : Fence} {n : Nat} {P : Program} {w w' : World} {ops : Array Oper} {rest : List Oper} {o : Oper} {a : Act} {Q : Exit → Act → World → Prop} (hg : o.guard = none) (s x : Operand) (t : TypeId)
    (hop : o.op = Op.call { callee := Callee.builtin Builtin.append, args := #[s, x], argTypes := #[t, t] }) {v u r : Value} (hs : a.eval s = v) (hx : a.eval x = u) (hrun : (Builtin.append_ #[t, t] o.type #[v, u]).run P w = .ok r w') (h : wpListIn F n P ops Q rest (a.put o.dst r) w') :
    wpListIn F n P ops Q (o :: rest) a w := by
  refine wpListIn_plain hg fun K hK' => ?_
  unfold Oper.wpIn
  refine ⟨?_, ?_⟩
  · simp [Oper.about, hop, resolve, Target.leads, Sem.run_pure]
  · rw [Oper.semAt_plain F _ _ (by rw [hop]; intro c hc'; cases hc')]
    simp [execOp, hop, resolve, invoke, builtin, hs, hx, hrun, Result.andThen]
    exact hK' _ _ h
/-- What one group is stored as. -/
def unit (g : List (Nat × Sx)) (c : Nat) : List Sx := listS (grp g c) :: (grp g c).map (·.2)
theorem units_snoc {α : Type} (g : List (Nat × Sx)) (f : α → Nat) (pre : List α) (x : α) : ((pre ++ [x]).map f).flatMap (unit g) = ((pre.map f).flatMap (unit g) ++ [listS (grp g (f x))]) ++ (grp g (f x)).map (·.2) := by
  rw [List.map_append, List.flatMap_append, List.append_assoc]
  simp [unit]
theorem length_units (g : List (Nat × Sx)) (cs : List Nat) : (cs.flatMap (unit g)).length ≤ 16 * cs.length := by
  induction cs with
  | nil => simp
  | cons c cs ih =>
    rw [List.flatMap_cons, List.length_append, List.length_cons]
    have : (unit g c).length ≤ 16 := by simp only [unit, List.length_cons, List.length_map, length_grp]; omega
    omega

theorem grp_mem {g : List (Nat × Sx)} {c : Nat} {p : Nat × Sx} (h : p ∈ grp g c) : p ∈ g := List.mem_of_mem_drop (List.mem_of_mem_take h)
theorem grp_get {g : List (Nat × Sx)} {c k : Nat} {p : Nat × Sx} (h : (grp g c)[k]? = some p) : k < 15 ∧ g[15 * c + k]? = some p := by
  rw [grp, List.getElem?_take] at h
  split at h
  · rw [List.getElem?_drop] at h; exact ⟨by assumption, h⟩
  · cases h
theorem Pats.sub {w : World} {T : Nat → Prop} {b0 o0 : Nat} {g : List (Nat × Sx)} (h : Pats w T (some ⟨b0, o0, none⟩) (ints g)) (c : Nat) : Pats w T (some ⟨b0, o0 + 15 * c * 3, none⟩) (ints (grp g c)) := fun k p hk => by
  rw [ints, List.getElem?_map, Option.map_eq_some_iff] at hk
  obtain ⟨q, hq, rfl⟩ := hk
  obtain ⟨h1, h2⟩ := grp_get hq
  obtain ⟨b, o, ba, oa, cp, h3, h4, h5, h6, h7, h8, h9, h10, h11, h12⟩ := h (15 * c + k) _ (ints_get h2)
  cases h3
  exact ⟨b0, o0 + 15 * c * 3, ba, oa, cp, rfl, h4, h5, h6, h7, h8, by rw [show o0 + 15 * c * 3 + k * 3 = o0 + (15 * c + k) * 3 by omega]; exact h9, by rw [show o0 + 15 * c * 3 + k * 3 = o0 + (15 * c + k) * 3 by omega]; exact h10, by rw [show o0 + 15 * c * 3 + k * 3 = o0 + (15 * c + k) * 3 by omega]; exact h11, h12⟩

theorem storedTo_units (g : List (Nat × Sx)) : ∀ C, storedTo g C = (List.range C).flatMap (unit g)
  | 0 => rfl
  | C + 1 => by rw [storedTo, storedTo_units g C, List.range_succ, List.flatMap_append]; simp [unit]

/-- The patches, those ahead of j with their sectors. -/
def Numb (U : Nat → Prop) (gs start j : Nat) (xs : List Sx) (W : World) : Prop :=
  ∀ k x, xs[k]? = some x → ∃ s ba oa cp, U ba ∧ ba < W.heap.size ∧ 64 ≤ cp ∧ W.cell? ⟨gs, k * 3, none⟩ = some (.int .i64 s) ∧ (k < j → s = ((start + 1 + k : Nat) : Int)) ∧ W.cell? ⟨gs, k * 3 + 1, none⟩ = some (.slice (some ⟨ba, oa, none⟩) 64 cp) ∧
    W.cell? ⟨gs, k * 3 + 2, none⟩ = some (.int .u16 (x.t : Int)) ∧ W.rangeAt ba oa (bytesV x.b)
theorem Held.numb {n₀ Bs : Nat} {T U : Nat → Prop} {gs m cap : Nat} {L : List (List Value)} {xs : List Sx} {W : World} (h : Held n₀ Bs T U (.slice (some ⟨gs, 0, none⟩) m cap) L xs W) (hm : m = L.length) (start : Nat) : Numb U gs start 0 xs W := fun k x hx => by
  subst hm
  have hk : k < L.length := by rw [h.els.1]; exact (List.getElem?_eq_some_iff.1 hx).1
  have hlk : L[k]? = some L[k] := List.getElem?_eq_getElem hk
  have hrow := Row.of_owns h.own rfl h.els.lens (fun c hc => by
    obtain ⟨k, hk⟩ := List.mem_iff_getElem?.1 hc
    obtain ⟨x, _, hx⟩ := h.els.get hk
    exact hx.one)
  obtain ⟨s, ba, oa, cp, hcs, e2, e3, e4, e5⟩ := h.els.2 k _ x hlk hx
  have hr := (hrow.elem k _ hlk).2.2
  rw [hcs] at hr
  exact ⟨s, ba, oa, cp, e2, e3, e4, hr 0 _ rfl, fun h => absurd h (Nat.not_lt_zero _), hr 1 _ rfl, hr 2 _ rfl, e5⟩
theorem Numb.set {U : Nat → Prop} {gs start j : Nat} {xs : List Sx} {W : World} (h : Numb U gs start j xs W) (hg : ¬ U gs) (v : Value) (hv : v = .int .i64 ((start + 1 + j : Nat) : Int)) : Numb U gs start (j + 1) xs (W.setCell ⟨gs, j * 3, none⟩ v) := fun k x hx => by
  obtain ⟨s, ba, oa, cp, h1, h2, h3, h4, h5, h6, h7, h8⟩ := h k x hx
  have ho : ∀ i, i ≠ j * 3 → (W.setCell ⟨gs, j * 3, none⟩ v).cell? ⟨gs, i, none⟩ = W.cell? ⟨gs, i, none⟩ := fun i hi => World.cell?_setCell_other _ _ _ _ (fun e => hi (congrArg Addr.off e).symm)
  have hb : ba ≠ gs := fun e => hg (e ▸ h1)
  have hrr : (W.setCell ⟨gs, j * 3, none⟩ v).rangeAt ba oa (bytesV x.b) := range_of_block h8 (Below.heap_setCell W ⟨gs, j * 3, none⟩ v ba hb)
  by_cases hk : k = j
  · subst hk
    refine ⟨((start + 1 + k : Nat) : Int), ba, oa, cp, h1, by simpa using h2, h3, ?_, fun _ => rfl, (ho _ (by omega)).trans h6, (ho _ (by omega)).trans h7, hrr⟩
    rw [hv]
    exact World.cell?_setCell_same' _ _ _ (by rw [h4]; rfl)
  · exact ⟨s, ba, oa, cp, h1, by simpa using h2, h3, (ho _ (by omega)).trans h4, fun hlt => h5 (by omega), (ho _ (by omega)).trans h6, (ho _ (by omega)).trans h7, hrr⟩

section
variable {w : World} {T : Nat → Prop} {bj b start n seq : Nat} {b0 o0 : Nat} {g : List (Nat × Sx)}
set_option maxRecDepth 100000 in
set_option maxHeartbeats 4000000 in
theorem stored_any (hJ : JB w bj b start n seq) (hL : Pats w T (some ⟨b0, o0, none⟩) (ints g)) (m c : Nat) (hm : g.length = m) (h0 : 0 < m) (hmm : m ≤ 100000) (hmc : m ≤ c) (hs : start ≤ 4096) (hf : ∀ p ∈ g, p.1 < 65536) :
    Calls Tryz.prog 31 #[.pointer (some ⟨bj, 0, none⟩), .slice (some ⟨b0, o0, none⟩) m c] w fun e w' => ∃ gs cap, e = .returned (.slice (some ⟨gs, 0, none⟩) (stored g).length cap) ∧ (stored g).length ≤ cap ∧
      Pats w' (fun i => T i ∨ w.heap.size ≤ i) (some ⟨gs, 0, none⟩) (ints (placed (start + 1) (stored g))) ∧ Below w.heap.size w w' := by
  have HJ := Lib.hid hJ
  have HL := Lib.hid hL
  have Hm := Lib.hid hm
  have Hf := Lib.hid hf
  have hmx : Tryz.prog.follows .mixedOrders = true := by kernel_rfl
  clear hJ hL hm hf
  refine (callsIn_wide (n := 5)).1 ?_
  refine callsIn_of_wp_marks Tryz.func31 rfl trivial ?_ rfl
  simp only [Tryz.ntmps31, List.size_toArray, List.length_cons, List.length_nil, Nat.reduceAdd, Nat.reduceSub, Array.replicate_succ, Array.replicate_zero, List.push_toArray, List.append_toArray, List.nil_append, List.cons_append]
  gi_wp2_with (refine ⟨trivial, ?_⟩; gi_at_call 63; refine (chunk_in _ _ _ _ _).mono ?_; rintro e w' ⟨rfl, rfl⟩)
  have bS := Boxed.new w 43 (.slice none 0 0)
  have e1 : (w.alloc (.cells #[.slice none 0 0] 43)).heap.size = w.heap.size + 1 := by simp
  obtain ⟨w1, hw1⟩ : ∃ w1, w1 = w.alloc (.cells #[.slice none 0 0] 43) := ⟨_, rfl⟩
  have b1 : Below w.heap.size w w1 := by rw [hw1]; exact (Below.refl _ w).alloc (Nat.le_refl _) _
  rw [← hw1] at bS e1 ⊢
  have bL := Boxed.new w1 43 (.slice (some ⟨b0, o0, none⟩) m c)
  have bN := Boxed.new (w1.alloc (.cells #[.slice (some ⟨b0, o0, none⟩) m c] 43)) 3 (.int .i64 15)
  have e2 : (w1.alloc (.cells #[.slice (some ⟨b0, o0, none⟩) m c] 43)).heap.size = w1.heap.size + 1 := by simp
  obtain ⟨w2, hw2⟩ : ∃ w2, w2 = w1.alloc (.cells #[.slice (some ⟨b0, o0, none⟩) m c] 43) := ⟨_, rfl⟩
  rw [← hw2] at bL e2 bN ⊢
  have e3 : (w2.alloc (.cells #[.int .i64 15] 3)).heap.size = w2.heap.size + 1 := by simp
  obtain ⟨w3, hw3⟩ : ∃ w3, w3 = w2.alloc (.cells #[.int .i64 15] 3) := ⟨_, rfl⟩
  have b2 : Below w.heap.size w1 w2 := by rw [hw2]; exact (Below.refl _ w1).alloc (by omega) _
  have b3 : Below w.heap.size w2 w3 := by rw [hw3]; exact (Below.refl _ w2).alloc (by omega) _
  have bS3 : Boxed w3 w.heap.size 43 (.slice none 0 0) := by rw [hw3, hw2]; exact (bS.alloc _).alloc _
  have bL3 : Boxed w3 (w.heap.size + 1) 43 (.slice (some ⟨b0, o0, none⟩) m c) := by rw [hw3, ← e1]; exact bL.alloc _
  have bN3 : Boxed w3 (w.heap.size + 1 + 1) 3 (.int .i64 15) := by rw [hw3, show w.heap.size + 1 + 1 = w2.heap.size by omega]; exact bN
  rw [← hw3] at e3 ⊢
  have hsz : w3.heap.size = w.heap.size + 3 := by omega
  have B3 : Below w.heap.size w w3 := (b1.trans b2).trans b3
  clear bS bL bN b1 b2 b3
  clear hw1 hw2 hw3 e1 e2 e3
  refine wpIn_rangeFunc_ownF rfl (by omega) (gf := 95) (lb := #[.pointer (some ⟨w.heap.size + 1, 0, none⟩), .pointer (some ⟨w.heap.size + 1 + 1, 0, none⟩)]) rfl trivial (enters_of Tryz.func95 (by kernel_rfl) rfl)
    (chunk_stops 4 (by omega) (w.heap.size + 1) (w.heap.size + 1 + 1) b0 o0 m c (by omega) hmc w3 (by omega) (by omega) bL3.cell bN3.cell) Two.trans (fun W k o o' hk _ _ _ => ⟨World.putObj_heap_other (by omega), World.putObj_heap_other (by omega)⟩) (Below.refl _ _) (fun _ => rfl)
    (fun pre W => Hold w.heap.size w.heap.size T ((pre.map (·.1)).flatMap (unit g)) W ∧ Below w.heap.size w W ∧ Two (w.heap.size + 1) (w.heap.size + 1 + 1) w3 W)
    (fun _ _ _ => False)
    (OwnFrom.and (Own.from (hold_own _ _ _ _) _) (OwnFrom.and (ownFrom_below (Nat.le_refl _) (by omega)) (fun _ W W' row hs hg hr => hs.trans ⟨hg.block _ (twoLt hs.1 bL3) (fun e => by have := (hr _ e.symm).1; omega), hg.block _ (twoLt hs.2 bN3) (fun e => by have := (hr _ e.symm).1; omega)⟩)))
    (fun _ _ _ _ _ hs _ _ => hs)
    ⟨⟨fun _ => False, _, [], bS3, World.ownsRow_nil _ _ _ _, Elems.nil _ _, fun _ h => h.elim, fun _ h => h.elim, fun h => h, fun _ _ h => h⟩, B3, Two.refl _ _ _⟩
    (fun x => { tmps := #[.pointer (some ⟨bj, 0, none⟩), .slice (some ⟨b0, o0, none⟩) m c, undef, undef, .slice none 0 0, .pointer (some ⟨w.heap.size, 0, none⟩), chunkV b0 o0 m x.1, undef, .slice (some ⟨b0, o0, none⟩) m c, .func (.func 95) #[] #[.pointer (some ⟨w.heap.size + 1, 0, none⟩), .pointer (some ⟨w.heap.size + 1 + 1, 0, none⟩)], chunkV b0 o0 m x.1, undef, undef, undef, undef, undef, undef,
                undef, undef, undef, undef, undef, undef, undef, undef, undef, undef, undef, undef, undef, undef,
                undef, undef, undef, undef, undef, undef, undef], defers := [] }) ?assign ?body ?done ?stop
  case assign =>
    intro l x W K hK
    gi_wp2
    exact hK
  case body =>
    rintro l pre x W ⟨⟨U, v, L, hH⟩, hB, hTw⟩ hlen
    obtain ⟨x, hx⟩ := x
    have hP : Pats W (fun i => T i ∧ i < w.heap.size) (some ⟨b0, o0 + 15 * x * 3, none⟩) (ints (grp g x)) := ((HL.out.more fun i hi ht => ⟨ht, hi⟩).below hB).sub x
    have hgl : (grp g x).length = min 15 (m - 15 * x) := by rw [length_grp, Hm.out]
    have Hlist := Lib.hid (fun W' (hW' : Below W.heap.size W W') => listOf_any (grp g x) (fun i => T i ∧ i < w.heap.size) (some ⟨b0, o0 + 15 * x * 3, none⟩) (min 15 (m - 15 * x)) (min 15 (m - 15 * x)) W' (hP.below hW') hgl (by omega) (fun p hp => Hf.out p (grp_mem hp)))
    have hc := hH.box.cell
    have hf := hH.box.frozen
    have HH := Lib.hid hH
    have HP := Lib.hid hP
    have Hgl := Lib.hid hgl
    have HB := Lib.hid hB
    have hLl : Hid (L.length ≤ 200000) := by
      show _ ≤ _
      rw [hH.els.1]
      have h1 := length_units g (pre.map (·.1))
      rw [List.length_map] at h1
      omega
    have HT := Lib.hid hTw
    clear hP hgl hH hB hTw
    obtain ⟨e, he⟩ : ∃ e, e = min 15 (m - 15 * x) := ⟨_, rfl⟩
    have hch : chunkV b0 o0 m x = .slice (some ⟨b0, o0 + 15 * x * 3, none⟩) e e := by rw [he]; rfl
    rw [← he] at Hlist Hgl
    have he0 : 0 < e := by omega
    have he15 : e ≤ 15 := by omega
    clear he
    dsimp only
    rw [hch]
    have hd1 : 1 ≤ 5 - 1 - 1 := by omega
    have HbW := Lib.hid HH.out.box.lt
    have Hsz := Lib.hid HB.out.size
    gi_wp2
    refine wpIn_region_any hmx ?_
    change wpAnyIn _ _ _ _ _ _ _ _ _ (World.drew _)
    refine wpAnyIn_ready (rs := [0, 1]) (by kernel_rfl) (by simp) ?_
    refine AllReadyIn.cons (o := _) rfl (fun K hK => ?_) ?_
    · go_simp
      refine hK _ _ ?_
      clear hK K
      try simp only [Act.put, List.setIfInBounds_toArray, List.set_cons_zero, List.set_cons_succ]
      refine wpAnyIn_ready (rs := [1]) (by kernel_rfl) (by simp) ?_
      refine AllReadyIn.cons (o := _) rfl (fun K hK => ?_) ?_
      · go_simp
        refine hK _ _ ?_
        clear hK K
        try simp only [Act.put, List.setIfInBounds_toArray, List.set_cons_zero, List.set_cons_succ]
        refine wpAnyIn_ready (rs := [2]) (by kernel_rfl) (by simp) ?_
        refine AllReadyIn.cons (o := _) rfl (fun K hK => ?_) ?_
        · go_simp
          refine ⟨trivial, ?_⟩
          refine (CallsIn.inRound l (callsIn_wide.2 (Hlist.out _ ((Below.refl _ _).drew)))).mono ?_
          rintro e2 w4 ⟨v2, rfl, hM2⟩
          have hb4 := Lib.hid ((Below.refl _ W).drew.trans hM2.2)
          obtain ⟨g1, cc, rfl, hcc, hg1, hg1', hr1⟩ := made_slice hM2 (length_listB _) (by omega)
          have HR := Lib.hid hr1
          have hc4 := (hM2.2.cell (p := ⟨w.heap.size, 0, none⟩) HbW.out).trans hc
          have hc4b : (w4.alloc (.cells #[.int .i64 0, .slice (some ⟨g1, 0, none⟩) 64 cc, .int .u16 0] 50)).cell? ⟨w.heap.size, 0, none⟩ = some v := (World.cell?_alloc_lt _ _ _ (World.block_lt_of_cell? w4 _ hc4)).trans hc4
          clear hM2 hr1
          obtain ⟨U2, g2, cap2, w5, hrun, hc5, hf5, hH5, hK5, hB5, hX5⟩ := Held.list (HH.out.below (Below.refl _ _)) Hsz.out (Nat.le_refl _) hb4.out hg1 hg1' hcc HR.out (by have := hLl.out; omega)
          have Hrun := Lib.hid hrun
          have HH5 := Lib.hid hH5
          have HK5 := Lib.hid hK5
          have HB5 := Lib.hid hB5
          have HX5 := Lib.hid hX5
          clear hH5 hK5 hB5 hX5 hrun
          gi_wp2
          try simp only [Act.put, List.setIfInBounds_toArray, List.set_cons_zero, List.set_cons_succ]
          refine wpAnyIn_ready (rs := [3]) (by kernel_rfl) (by simp) ?_
          refine AllReadyIn.cons (o := _) rfl (fun K hK => ?_) ?_
          · go_simp
            refine hK _ _ ?_
            clear hK K
            try simp only [Act.put, List.setIfInBounds_toArray, List.set_cons_zero, List.set_cons_succ]
            refine wpAnyIn_ready (rs := [4]) (by kernel_rfl) (by simp) ?_
            refine AllReadyIn.cons (o := _) rfl (fun K hK => ?_) ?_
            · go_simp
              refine hK _ _ ?_
              clear hK K
              try simp only [Act.put, List.setIfInBounds_toArray, List.set_cons_zero, List.set_cons_succ]
              refine wpAnyIn_ready (rs := [5]) (by kernel_rfl) (by simp) ?_
              refine AllReadyIn.cons (o := _) rfl (fun K hK => ?_) ?_
              · refine stepIn_append_run rfl (.tmp 11) (.tmp 15) 43 rfl rfl rfl Hrun.out ?_
                simp only [Act.put, List.setIfInBounds_toArray]
                refine hK _ _ ?_
                clear hK K
                try simp only [Act.put, List.setIfInBounds_toArray, List.set_cons_zero, List.set_cons_succ]
                refine wpAnyIn_ready (rs := [6]) (by kernel_rfl) (by simp) ?_
                refine AllReadyIn.cons (o := _) rfl (fun K hK => ?_) ?_
                · go_simp
                  refine hK _ _ ?_
                  clear hK K
                  try simp only [Act.put, List.setIfInBounds_toArray, List.set_cons_zero, List.set_cons_succ]
                  refine wpAnyIn_done (by kernel_rfl) ?_ _
                  obtain ⟨W6, hW6⟩ : ∃ W6, W6 = w5.setCell ⟨w.heap.size, 0, none⟩ (.slice (some ⟨g2, 0, none⟩) (L.length + 1) cap2) := ⟨_, rfl⟩
                  rw [← hW6] at HH5 HK5 HB5 HX5 ⊢
                  clear hW6 hc4 hc4b hc5 hf5 Hrun hb4 HR
                  have hP6 : Pats W6 (fun i => T i ∧ i < w.heap.size) (some ⟨b0, o0 + 15 * x * 3, none⟩) (ints (grp g x)) := HP.out.keep HK5.out.size fun i hi _ => HB5.out.block i hi.2
                  have c6 := HH5.out.box.cell
                  have f6 := HH5.out.box.frozen
                  have hL6 : (L ++ [[Value.int .i64 0, .slice (some ⟨g1, 0, none⟩) 64 cc, .int .u16 0]]).length = L.length + 1 := by simp
                  obtain ⟨U7, M7, g7, cap7, w7, hM7, hrun7, hc7, hf7, hH7, hK7, hB7, hX7⟩ := HH5.out.group (by have := HK5.out.size; have := Hsz.out; omega) (Nat.le_refl _) hP6 e Hgl.out he0 e (by rw [hL6]; have := hLl.out; omega)
                  rw [hL6] at hrun7 hH7 hK7 hB7 hX7
                  have Hrun7 := Lib.hid hrun7
                  have HH7 := Lib.hid hH7
                  have HK7 := Lib.hid (HK5.out.trans hK7)
                  have HX7 := Lib.hid (HX5.out.trans hX7)
                  have HB7 := Lib.hid (HB5.out.trans hB7)
                  clear hP6 hL6 hH7 hK7 hB7 hX7 hM7 hrun7
                  gi_wp2_with (gi_at_builtin; refine wpListIn_append_run rfl (.tmp 17) (.tmp 18) 43 rfl rfl rfl Hrun7.out ?_)
                  refine ⟨HK7.out, ⟨HX7.out _ _ _ (by decide) (by omega) (HT.out.1.trans bL3), HX7.out _ _ _ (by decide) (by omega) (HT.out.2.trans bN3)⟩, ?_, HB.out.trans HB7.out, HT.out.trans ⟨HX7.out _ _ _ (by decide) (by omega) (HT.out.1.trans bL3), HX7.out _ _ _ (by decide) (by omega) (HT.out.2.trans bN3)⟩⟩
                  rw [units_snoc]
                  exact ⟨_, _, _, HH7.out⟩
                exact AllReadyIn.nil
              exact AllReadyIn.nil
            exact AllReadyIn.nil
          exact AllReadyIn.nil
        exact AllReadyIn.nil
      exact AllReadyIn.nil
    refine AllReadyIn.cons (o := _) rfl (fun K hK => ?_) ?_
    · go_simp
      refine hK _ _ ?_
      clear hK K
      try simp only [Act.put, List.setIfInBounds_toArray, List.set_cons_zero, List.set_cons_succ]
      refine wpAnyIn_ready (rs := [0, 2]) (by kernel_rfl) (by simp) ?_
      refine AllReadyIn.cons (o := _) rfl (fun K hK => ?_) ?_
      · go_simp
        refine hK _ _ ?_
        clear hK K
        try simp only [Act.put, List.setIfInBounds_toArray, List.set_cons_zero, List.set_cons_succ]
        refine wpAnyIn_ready (rs := [2]) (by kernel_rfl) (by simp) ?_
        refine AllReadyIn.cons (o := _) rfl (fun K hK => ?_) ?_
        · go_simp
          refine ⟨trivial, ?_⟩
          refine (CallsIn.inRound l (callsIn_wide.2 (Hlist.out _ ((Below.refl _ _).drew)))).mono ?_
          rintro e2 w4 ⟨v2, rfl, hM2⟩
          have hb4 := Lib.hid ((Below.refl _ W).drew.trans hM2.2)
          obtain ⟨g1, cc, rfl, hcc, hg1, hg1', hr1⟩ := made_slice hM2 (length_listB _) (by omega)
          have HR := Lib.hid hr1
          have hc4 := (hM2.2.cell (p := ⟨w.heap.size, 0, none⟩) HbW.out).trans hc
          have hc4b : (w4.alloc (.cells #[.int .i64 0, .slice (some ⟨g1, 0, none⟩) 64 cc, .int .u16 0] 50)).cell? ⟨w.heap.size, 0, none⟩ = some v := (World.cell?_alloc_lt _ _ _ (World.block_lt_of_cell? w4 _ hc4)).trans hc4
          clear hM2 hr1
          obtain ⟨U2, g2, cap2, w5, hrun, hc5, hf5, hH5, hK5, hB5, hX5⟩ := Held.list (HH.out.below (Below.refl _ _)) Hsz.out (Nat.le_refl _) hb4.out hg1 hg1' hcc HR.out (by have := hLl.out; omega)
          have Hrun := Lib.hid hrun
          have HH5 := Lib.hid hH5
          have HK5 := Lib.hid hK5
          have HB5 := Lib.hid hB5
          have HX5 := Lib.hid hX5
          clear hH5 hK5 hB5 hX5 hrun
          gi_wp2
          try simp only [Act.put, List.setIfInBounds_toArray, List.set_cons_zero, List.set_cons_succ]
          refine wpAnyIn_ready (rs := [3]) (by kernel_rfl) (by simp) ?_
          refine AllReadyIn.cons (o := _) rfl (fun K hK => ?_) ?_
          · go_simp
            refine hK _ _ ?_
            clear hK K
            try simp only [Act.put, List.setIfInBounds_toArray, List.set_cons_zero, List.set_cons_succ]
            refine wpAnyIn_ready (rs := [4]) (by kernel_rfl) (by simp) ?_
            refine AllReadyIn.cons (o := _) rfl (fun K hK => ?_) ?_
            · go_simp
              refine hK _ _ ?_
              clear hK K
              try simp only [Act.put, List.setIfInBounds_toArray, List.set_cons_zero, List.set_cons_succ]
              refine wpAnyIn_ready (rs := [5]) (by kernel_rfl) (by simp) ?_
              refine AllReadyIn.cons (o := _) rfl (fun K hK => ?_) ?_
              · refine stepIn_append_run rfl (.tmp 11) (.tmp 15) 43 rfl rfl rfl Hrun.out ?_
                simp only [Act.put, List.setIfInBounds_toArray]
                refine hK _ _ ?_
                clear hK K
                try simp only [Act.put, List.setIfInBounds_toArray, List.set_cons_zero, List.set_cons_succ]
                refine wpAnyIn_ready (rs := [6]) (by kernel_rfl) (by simp) ?_
                refine AllReadyIn.cons (o := _) rfl (fun K hK => ?_) ?_
                · go_simp
                  refine hK _ _ ?_
                  clear hK K
                  try simp only [Act.put, List.setIfInBounds_toArray, List.set_cons_zero, List.set_cons_succ]
                  refine wpAnyIn_done (by kernel_rfl) ?_ _
                  obtain ⟨W6, hW6⟩ : ∃ W6, W6 = w5.setCell ⟨w.heap.size, 0, none⟩ (.slice (some ⟨g2, 0, none⟩) (L.length + 1) cap2) := ⟨_, rfl⟩
                  rw [← hW6] at HH5 HK5 HB5 HX5 ⊢
                  clear hW6 hc4 hc4b hc5 hf5 Hrun hb4 HR
                  have hP6 : Pats W6 (fun i => T i ∧ i < w.heap.size) (some ⟨b0, o0 + 15 * x * 3, none⟩) (ints (grp g x)) := HP.out.keep HK5.out.size fun i hi _ => HB5.out.block i hi.2
                  have c6 := HH5.out.box.cell
                  have f6 := HH5.out.box.frozen
                  have hL6 : (L ++ [[Value.int .i64 0, .slice (some ⟨g1, 0, none⟩) 64 cc, .int .u16 0]]).length = L.length + 1 := by simp
                  obtain ⟨U7, M7, g7, cap7, w7, hM7, hrun7, hc7, hf7, hH7, hK7, hB7, hX7⟩ := HH5.out.group (by have := HK5.out.size; have := Hsz.out; omega) (Nat.le_refl _) hP6 e Hgl.out he0 e (by rw [hL6]; have := hLl.out; omega)
                  rw [hL6] at hrun7 hH7 hK7 hB7 hX7
                  have Hrun7 := Lib.hid hrun7
                  have HH7 := Lib.hid hH7
                  have HK7 := Lib.hid (HK5.out.trans hK7)
                  have HX7 := Lib.hid (HX5.out.trans hX7)
                  have HB7 := Lib.hid (HB5.out.trans hB7)
                  clear hP6 hL6 hH7 hK7 hB7 hX7 hM7 hrun7
                  gi_wp2_with (gi_at_builtin; refine wpListIn_append_run rfl (.tmp 17) (.tmp 18) 43 rfl rfl rfl Hrun7.out ?_)
                  refine ⟨HK7.out, ⟨HX7.out _ _ _ (by decide) (by omega) (HT.out.1.trans bL3), HX7.out _ _ _ (by decide) (by omega) (HT.out.2.trans bN3)⟩, ?_, HB.out.trans HB7.out, HT.out.trans ⟨HX7.out _ _ _ (by decide) (by omega) (HT.out.1.trans bL3), HX7.out _ _ _ (by decide) (by omega) (HT.out.2.trans bN3)⟩⟩
                  rw [units_snoc]
                  exact ⟨_, _, _, HH7.out⟩
                exact AllReadyIn.nil
              exact AllReadyIn.nil
            exact AllReadyIn.nil
          exact AllReadyIn.nil
        exact AllReadyIn.nil
      refine AllReadyIn.cons (o := _) rfl (fun K hK => ?_) ?_
      · go_simp
        refine ⟨trivial, ?_⟩
        refine (CallsIn.inRound l (callsIn_wide.2 (Hlist.out _ ((Below.refl _ _).drew)))).mono ?_
        rintro e2 w4 ⟨v2, rfl, hM2⟩
        have hb4 := Lib.hid ((Below.refl _ W).drew.trans hM2.2)
        obtain ⟨g1, cc, rfl, hcc, hg1, hg1', hr1⟩ := made_slice hM2 (length_listB _) (by omega)
        have HR := Lib.hid hr1
        have hc4 := (hM2.2.cell (p := ⟨w.heap.size, 0, none⟩) HbW.out).trans hc
        have hc4b : (w4.alloc (.cells #[.int .i64 0, .slice (some ⟨g1, 0, none⟩) 64 cc, .int .u16 0] 50)).cell? ⟨w.heap.size, 0, none⟩ = some v := (World.cell?_alloc_lt _ _ _ (World.block_lt_of_cell? w4 _ hc4)).trans hc4
        clear hM2 hr1
        obtain ⟨U2, g2, cap2, w5, hrun, hc5, hf5, hH5, hK5, hB5, hX5⟩ := Held.list (HH.out.below (Below.refl _ _)) Hsz.out (Nat.le_refl _) hb4.out hg1 hg1' hcc HR.out (by have := hLl.out; omega)
        have Hrun := Lib.hid hrun
        have HH5 := Lib.hid hH5
        have HK5 := Lib.hid hK5
        have HB5 := Lib.hid hB5
        have HX5 := Lib.hid hX5
        clear hH5 hK5 hB5 hX5 hrun
        gi_wp2
        try simp only [Act.put, List.setIfInBounds_toArray, List.set_cons_zero, List.set_cons_succ]
        refine wpAnyIn_ready (rs := [0, 3]) (by kernel_rfl) (by simp) ?_
        refine AllReadyIn.cons (o := _) rfl (fun K hK => ?_) ?_
        · go_simp
          refine hK _ _ ?_
          clear hK K
          try simp only [Act.put, List.setIfInBounds_toArray, List.set_cons_zero, List.set_cons_succ]
          refine wpAnyIn_ready (rs := [3]) (by kernel_rfl) (by simp) ?_
          refine AllReadyIn.cons (o := _) rfl (fun K hK => ?_) ?_
          · go_simp
            refine hK _ _ ?_
            clear hK K
            try simp only [Act.put, List.setIfInBounds_toArray, List.set_cons_zero, List.set_cons_succ]
            refine wpAnyIn_ready (rs := [4]) (by kernel_rfl) (by simp) ?_
            refine AllReadyIn.cons (o := _) rfl (fun K hK => ?_) ?_
            · go_simp
              refine hK _ _ ?_
              clear hK K
              try simp only [Act.put, List.setIfInBounds_toArray, List.set_cons_zero, List.set_cons_succ]
              refine wpAnyIn_ready (rs := [5]) (by kernel_rfl) (by simp) ?_
              refine AllReadyIn.cons (o := _) rfl (fun K hK => ?_) ?_
              · refine stepIn_append_run rfl (.tmp 11) (.tmp 15) 43 rfl rfl rfl Hrun.out ?_
                simp only [Act.put, List.setIfInBounds_toArray]
                refine hK _ _ ?_
                clear hK K
                try simp only [Act.put, List.setIfInBounds_toArray, List.set_cons_zero, List.set_cons_succ]
                refine wpAnyIn_ready (rs := [6]) (by kernel_rfl) (by simp) ?_
                refine AllReadyIn.cons (o := _) rfl (fun K hK => ?_) ?_
                · go_simp
                  refine hK _ _ ?_
                  clear hK K
                  try simp only [Act.put, List.setIfInBounds_toArray, List.set_cons_zero, List.set_cons_succ]
                  refine wpAnyIn_done (by kernel_rfl) ?_ _
                  obtain ⟨W6, hW6⟩ : ∃ W6, W6 = w5.setCell ⟨w.heap.size, 0, none⟩ (.slice (some ⟨g2, 0, none⟩) (L.length + 1) cap2) := ⟨_, rfl⟩
                  rw [← hW6] at HH5 HK5 HB5 HX5 ⊢
                  clear hW6 hc4 hc4b hc5 hf5 Hrun hb4 HR
                  have hP6 : Pats W6 (fun i => T i ∧ i < w.heap.size) (some ⟨b0, o0 + 15 * x * 3, none⟩) (ints (grp g x)) := HP.out.keep HK5.out.size fun i hi _ => HB5.out.block i hi.2
                  have c6 := HH5.out.box.cell
                  have f6 := HH5.out.box.frozen
                  have hL6 : (L ++ [[Value.int .i64 0, .slice (some ⟨g1, 0, none⟩) 64 cc, .int .u16 0]]).length = L.length + 1 := by simp
                  obtain ⟨U7, M7, g7, cap7, w7, hM7, hrun7, hc7, hf7, hH7, hK7, hB7, hX7⟩ := HH5.out.group (by have := HK5.out.size; have := Hsz.out; omega) (Nat.le_refl _) hP6 e Hgl.out he0 e (by rw [hL6]; have := hLl.out; omega)
                  rw [hL6] at hrun7 hH7 hK7 hB7 hX7
                  have Hrun7 := Lib.hid hrun7
                  have HH7 := Lib.hid hH7
                  have HK7 := Lib.hid (HK5.out.trans hK7)
                  have HX7 := Lib.hid (HX5.out.trans hX7)
                  have HB7 := Lib.hid (HB5.out.trans hB7)
                  clear hP6 hL6 hH7 hK7 hB7 hX7 hM7 hrun7
                  gi_wp2_with (gi_at_builtin; refine wpListIn_append_run rfl (.tmp 17) (.tmp 18) 43 rfl rfl rfl Hrun7.out ?_)
                  refine ⟨HK7.out, ⟨HX7.out _ _ _ (by decide) (by omega) (HT.out.1.trans bL3), HX7.out _ _ _ (by decide) (by omega) (HT.out.2.trans bN3)⟩, ?_, HB.out.trans HB7.out, HT.out.trans ⟨HX7.out _ _ _ (by decide) (by omega) (HT.out.1.trans bL3), HX7.out _ _ _ (by decide) (by omega) (HT.out.2.trans bN3)⟩⟩
                  rw [units_snoc]
                  exact ⟨_, _, _, HH7.out⟩
                exact AllReadyIn.nil
              exact AllReadyIn.nil
            exact AllReadyIn.nil
          exact AllReadyIn.nil
        refine AllReadyIn.cons (o := _) rfl (fun K hK => ?_) ?_
        · go_simp
          refine hK _ _ ?_
          clear hK K
          try simp only [Act.put, List.setIfInBounds_toArray, List.set_cons_zero, List.set_cons_succ]
          refine wpAnyIn_ready (rs := [0, 4]) (by kernel_rfl) (by simp) ?_
          refine AllReadyIn.cons (o := _) rfl (fun K hK => ?_) ?_
          · go_simp
            refine hK _ _ ?_
            clear hK K
            try simp only [Act.put, List.setIfInBounds_toArray, List.set_cons_zero, List.set_cons_succ]
            refine wpAnyIn_ready (rs := [4]) (by kernel_rfl) (by simp) ?_
            refine AllReadyIn.cons (o := _) rfl (fun K hK => ?_) ?_
            · go_simp
              refine hK _ _ ?_
              clear hK K
              try simp only [Act.put, List.setIfInBounds_toArray, List.set_cons_zero, List.set_cons_succ]
              refine wpAnyIn_ready (rs := [5]) (by kernel_rfl) (by simp) ?_
              refine AllReadyIn.cons (o := _) rfl (fun K hK => ?_) ?_
              · refine stepIn_append_run rfl (.tmp 11) (.tmp 15) 43 rfl rfl rfl Hrun.out ?_
                simp only [Act.put, List.setIfInBounds_toArray]
                refine hK _ _ ?_
                clear hK K
                try simp only [Act.put, List.setIfInBounds_toArray, List.set_cons_zero, List.set_cons_succ]
                refine wpAnyIn_ready (rs := [6]) (by kernel_rfl) (by simp) ?_
                refine AllReadyIn.cons (o := _) rfl (fun K hK => ?_) ?_
                · go_simp
                  refine hK _ _ ?_
                  clear hK K
                  try simp only [Act.put, List.setIfInBounds_toArray, List.set_cons_zero, List.set_cons_succ]
                  refine wpAnyIn_done (by kernel_rfl) ?_ _
                  obtain ⟨W6, hW6⟩ : ∃ W6, W6 = w5.setCell ⟨w.heap.size, 0, none⟩ (.slice (some ⟨g2, 0, none⟩) (L.length + 1) cap2) := ⟨_, rfl⟩
                  rw [← hW6] at HH5 HK5 HB5 HX5 ⊢
                  clear hW6 hc4 hc4b hc5 hf5 Hrun hb4 HR
                  have hP6 : Pats W6 (fun i => T i ∧ i < w.heap.size) (some ⟨b0, o0 + 15 * x * 3, none⟩) (ints (grp g x)) := HP.out.keep HK5.out.size fun i hi _ => HB5.out.block i hi.2
                  have c6 := HH5.out.box.cell
                  have f6 := HH5.out.box.frozen
                  have hL6 : (L ++ [[Value.int .i64 0, .slice (some ⟨g1, 0, none⟩) 64 cc, .int .u16 0]]).length = L.length + 1 := by simp
                  obtain ⟨U7, M7, g7, cap7, w7, hM7, hrun7, hc7, hf7, hH7, hK7, hB7, hX7⟩ := HH5.out.group (by have := HK5.out.size; have := Hsz.out; omega) (Nat.le_refl _) hP6 e Hgl.out he0 e (by rw [hL6]; have := hLl.out; omega)
                  rw [hL6] at hrun7 hH7 hK7 hB7 hX7
                  have Hrun7 := Lib.hid hrun7
                  have HH7 := Lib.hid hH7
                  have HK7 := Lib.hid (HK5.out.trans hK7)
                  have HX7 := Lib.hid (HX5.out.trans hX7)
                  have HB7 := Lib.hid (HB5.out.trans hB7)
                  clear hP6 hL6 hH7 hK7 hB7 hX7 hM7 hrun7
                  gi_wp2_with (gi_at_builtin; refine wpListIn_append_run rfl (.tmp 17) (.tmp 18) 43 rfl rfl rfl Hrun7.out ?_)
                  refine ⟨HK7.out, ⟨HX7.out _ _ _ (by decide) (by omega) (HT.out.1.trans bL3), HX7.out _ _ _ (by decide) (by omega) (HT.out.2.trans bN3)⟩, ?_, HB.out.trans HB7.out, HT.out.trans ⟨HX7.out _ _ _ (by decide) (by omega) (HT.out.1.trans bL3), HX7.out _ _ _ (by decide) (by omega) (HT.out.2.trans bN3)⟩⟩
                  rw [units_snoc]
                  exact ⟨_, _, _, HH7.out⟩
                exact AllReadyIn.nil
              exact AllReadyIn.nil
            exact AllReadyIn.nil
          refine AllReadyIn.cons (o := _) rfl (fun K hK => ?_) ?_
          · go_simp
            refine hK _ _ ?_
            clear hK K
            try simp only [Act.put, List.setIfInBounds_toArray, List.set_cons_zero, List.set_cons_succ]
            refine wpAnyIn_ready (rs := [0]) (by kernel_rfl) (by simp) ?_
            refine AllReadyIn.cons (o := _) rfl (fun K hK => ?_) ?_
            · go_simp
              refine hK _ _ ?_
              clear hK K
              try simp only [Act.put, List.setIfInBounds_toArray, List.set_cons_zero, List.set_cons_succ]
              refine wpAnyIn_ready (rs := [5]) (by kernel_rfl) (by simp) ?_
              refine AllReadyIn.cons (o := _) rfl (fun K hK => ?_) ?_
              · refine stepIn_append_run rfl (.tmp 11) (.tmp 15) 43 rfl rfl rfl Hrun.out ?_
                simp only [Act.put, List.setIfInBounds_toArray]
                refine hK _ _ ?_
                clear hK K
                try simp only [Act.put, List.setIfInBounds_toArray, List.set_cons_zero, List.set_cons_succ]
                refine wpAnyIn_ready (rs := [6]) (by kernel_rfl) (by simp) ?_
                refine AllReadyIn.cons (o := _) rfl (fun K hK => ?_) ?_
                · go_simp
                  refine hK _ _ ?_
                  clear hK K
                  try simp only [Act.put, List.setIfInBounds_toArray, List.set_cons_zero, List.set_cons_succ]
                  refine wpAnyIn_done (by kernel_rfl) ?_ _
                  obtain ⟨W6, hW6⟩ : ∃ W6, W6 = w5.setCell ⟨w.heap.size, 0, none⟩ (.slice (some ⟨g2, 0, none⟩) (L.length + 1) cap2) := ⟨_, rfl⟩
                  rw [← hW6] at HH5 HK5 HB5 HX5 ⊢
                  clear hW6 hc4 hc4b hc5 hf5 Hrun hb4 HR
                  have hP6 : Pats W6 (fun i => T i ∧ i < w.heap.size) (some ⟨b0, o0 + 15 * x * 3, none⟩) (ints (grp g x)) := HP.out.keep HK5.out.size fun i hi _ => HB5.out.block i hi.2
                  have c6 := HH5.out.box.cell
                  have f6 := HH5.out.box.frozen
                  have hL6 : (L ++ [[Value.int .i64 0, .slice (some ⟨g1, 0, none⟩) 64 cc, .int .u16 0]]).length = L.length + 1 := by simp
                  obtain ⟨U7, M7, g7, cap7, w7, hM7, hrun7, hc7, hf7, hH7, hK7, hB7, hX7⟩ := HH5.out.group (by have := HK5.out.size; have := Hsz.out; omega) (Nat.le_refl _) hP6 e Hgl.out he0 e (by rw [hL6]; have := hLl.out; omega)
                  rw [hL6] at hrun7 hH7 hK7 hB7 hX7
                  have Hrun7 := Lib.hid hrun7
                  have HH7 := Lib.hid hH7
                  have HK7 := Lib.hid (HK5.out.trans hK7)
                  have HX7 := Lib.hid (HX5.out.trans hX7)
                  have HB7 := Lib.hid (HB5.out.trans hB7)
                  clear hP6 hL6 hH7 hK7 hB7 hX7 hM7 hrun7
                  gi_wp2_with (gi_at_builtin; refine wpListIn_append_run rfl (.tmp 17) (.tmp 18) 43 rfl rfl rfl Hrun7.out ?_)
                  refine ⟨HK7.out, ⟨HX7.out _ _ _ (by decide) (by omega) (HT.out.1.trans bL3), HX7.out _ _ _ (by decide) (by omega) (HT.out.2.trans bN3)⟩, ?_, HB.out.trans HB7.out, HT.out.trans ⟨HX7.out _ _ _ (by decide) (by omega) (HT.out.1.trans bL3), HX7.out _ _ _ (by decide) (by omega) (HT.out.2.trans bN3)⟩⟩
                  rw [units_snoc]
                  exact ⟨_, _, _, HH7.out⟩
                exact AllReadyIn.nil
              exact AllReadyIn.nil
            exact AllReadyIn.nil
          exact AllReadyIn.nil
        exact AllReadyIn.nil
      exact AllReadyIn.nil
    exact AllReadyIn.nil
  case done =>
    rintro D ys W hD hys ⟨⟨U, v, L, hH⟩, hB, _⟩ hK
    have hCm : 0 < (m + 14) / 15 := by omega
    rw [hys, ← storedTo_units] at hH
    have hst : storedTo g ((m + 14) / 15) = stored g := by rw [stored, Hm.out]
    rw [hst] at hH
    have hMl : (stored g).length = m + (m + 14) / 15 := by rw [length_stored, Hm.out]
    have hlen := hH.els.1
    obtain ⟨M, hM⟩ : ∃ M, M = (stored g).length := ⟨_, rfl⟩
    rw [← hM] at hMl hlen
    obtain ⟨gs, cap, rfl, hgs1, hgs2⟩ := hH.own.form (by omega)
    have hcap : M ≤ cap := by
      rcases hH.own.2 with ⟨h1, _⟩ | ⟨g', cap', cur, h1, h2, h3, h4, _⟩
      · cases h1
      · cases h1; omega
    rw [hlen] at hH
    have hN := hH.numb hlen.symm start
    have hbox := hH.box
    have hc := hbox.cell
    have c1 := (hB.cell (p := ⟨bj, 1, none⟩) HJ.out.lt).trans (HJ.out.cell 1)
    have hbg : w.heap.size ≠ gs := fun e => hH.box.not_row (by decide) hH.own (by rw [e]; rfl)
    have hnU : ¬ U gs := hH.nown gs rfl
    have hfg : ∀ i, W.frozen? ⟨gs, i, none⟩ = false := fun i => by
      rcases hH.own.2 with ⟨h1, _⟩ | ⟨g', cap', cur, h1, _, h2, _⟩
      · cases h1
      · cases h1
        exact frozen_of_row W gs i cur 50 h2
    have hU := hH.ins
    have HU := Lib.hid (And.intro hH.ins hH.low)
    have Hlen := Lib.hid hlen
    have HM := Lib.hid hM
    clear hU
    have HMl := Lib.hid hMl
    have hM2 : M ≤ 200000 := by omega
    clear hbox hMl hCm
    have HB := Lib.hid hB
    have HN := Lib.hid hN
    have Hbox := Lib.hid hH.box
    have Hfg := Lib.hid hfg
    have HK := Lib.hid hK
    have HhU := Lib.hid hnU
    clear hB hN hH hfg hK hnU
    gi_wp2
    gi_loopw [7, 22] (fun _ i wr => ∃ j : Nat, j ≤ M ∧ i = .int .i64 (j : Int) ∧ Numb U gs start j (stored g) wr ∧ Below w.heap.size w wr ∧ Boxed wr w.heap.size 43 (.slice (some ⟨gs, 0, none⟩) M cap) ∧ (∀ i, wr.frozen? ⟨gs, i, none⟩ = false) ∧ wr.heap[D]? = some (.deferred (some [])))
      (fun _ i _ => M - (intOf i).toNat)
    case atStart => exact ⟨0, Nat.zero_le _, rfl, HN.out, HB.out, Hbox.out, Hfg.out, HK.out⟩
    case round =>
      obtain ⟨j, hj, rfl, hN, hB, hbx, hfz, hDD⟩ := hrel
      have A1 := Lib.hid hN
      have A2 := Lib.hid hB
      have A3 := Lib.hid hbx
      have A4 := Lib.hid hfz
      have A5 := Lib.hid hDD
      have cs := hbx.cell
      have cj := (hB.cell (p := ⟨bj, 1, none⟩) HJ.out.lt).trans (HJ.out.cell 1)
      by_cases hlt : j < M
      · obtain ⟨x, hx⟩ : ∃ x, (stored g)[j]? = some x := ⟨_, List.getElem?_eq_getElem (by rw [← HM.out]; exact hlt)⟩
        obtain ⟨s0, ba, oa, cp, _, _, _, c0, _, _, _, _⟩ := hN j x hx
        have fz := hfz (j * 3)
        have hw1 : IntKind.i64.wrap ((start : Int) + 1) = ((start + 1 : Nat) : Int) := by rw [IntKind.wrap_i64]; omega
        have hw2 : IntKind.i64.wrap (((start + 1 : Nat) : Int) + (j : Int)) = ((start + 1 + j : Nat) : Int) := by rw [IntKind.wrap_i64]; omega
        clear hN hB hbx hfz hDD hx
        gi_wp2
        gi_region
        all_goals gi_wp2
        all_goals go_roundw
        case rel =>
          refine ⟨j + 1, by omega, by go_num, A1.out.set (W := wr.drew) HhU.out _ rfl, ?_, ?_, ?_, ?_⟩
          · exact (A2.out.drew).setCell (p := ⟨gs, j * 3, none⟩) hgs1 _
          · exact (Below.heap_setCell wr.drew ⟨gs, j * 3, none⟩ _ w.heap.size hbg).trans A3.out
          · exact fun i => (World.frozen?_setCell wr _ _ _).trans (A4.out i)
          · exact (KeepsOthers.setCell wr.drew _ _).same D _ A5.out rfl
        case measure => simp [intOf]; omega
      · obtain rfl : j = M := by omega
        clear hN hB hbx hfz hDD
        gi_wp2
        refine ⟨by simp, .inl ⟨_, _, rfl, run_takeDeferred A5.out, ?_⟩⟩
        refine ⟨_, results_tmp rfl _ _ _, gs, cap, by rw [← HM.out]; rfl, by rw [← HM.out]; exact hcap, ?_, A2.out.trans (belowK_b (w := w) (Nat.le_refl _) wr D _ _ (by omega) A5.out rfl rfl)⟩
        intro k p hp
        rw [ints, List.getElem?_map, placed_get, Option.map_map, Option.map_eq_some_iff] at hp
        obtain ⟨x, hx, rfl⟩ := hp
        obtain ⟨s0, ba, oa, cp, u1, u2, u3, u4, u5, u6, u7, u8⟩ := A1.out k x hx
        have hk : k < j := by rw [HM.out]; exact (List.getElem?_eq_some_iff.1 hx).1
        have hgo : ∃ o : Obj, wr.heap[gs]? = some o ∧ o.isCells = true := cells_of_cell u4
        have hbo : ∃ o : Obj, wr.heap[ba]? = some o ∧ o.isCells = true := by
          have hb0 : (bytesV x.b)[0]? = some (byteV (x.b[0]'(by rw [x.hb]; omega))) := by
            rw [bytesV, List.getElem?_map, List.getElem?_eq_getElem (by rw [x.hb]; omega)]; rfl
          exact cells_of_cell (u8 0 _ hb0)
        have hgD : gs ≠ D := fun e => by obtain ⟨o, h1, h2⟩ := hgo; rw [e, A5.out] at h1; cases h1; cases h2
        have hbD : ba ≠ D := fun e => by obtain ⟨o, h1, h2⟩ := hbo; rw [e, A5.out] at h1; cases h1; cases h2
        have hcell : ∀ i, (wr.putObj D (.deferred none)).cell? ⟨gs, i, none⟩ = wr.cell? ⟨gs, i, none⟩ := fun i => World.cell?_of_block (a := ⟨gs, i, none⟩) (World.putObj_heap_other hgD)
        refine ⟨gs, 0, ba, oa, cp, rfl, .inr hgs1, ?_, by simp; exact (World.block_lt_of_cell? wr _ u4), by simpa using u2, u3, ?_, ?_, ?_, range_of_block u8 (World.putObj_heap_other hbD)⟩
        · rcases HU.out.1 ba u1 with h | h
          · exact .inl h.1
          · exact .inr h
        · rw [Nat.zero_add, hcell, u4, u5 hk]; rfl
        · rw [Nat.zero_add, hcell, u6]
        · rw [Nat.zero_add, hcell, u7]; rfl
  case stop =>
    rintro D c pre W _ _ h _
    exact h.elim
end
end Go.Proofs.YtaflpigpeckhoaaGreat

/-
  A commit.
-/
namespace Go.Proofs.YtaflpigpeckhoaaGreat
open Go.RowKit
attribute [local go_sem ↓] Go.wp_at_zero Go.wp_at_succ

/-- Where Commit's failed steps come together. -/
def CFail (v0 v1 : Value) (R : Int → World → Prop) (a : Act) (w : World) : Prop :=
  ∃ (e : Int) (u2 u3 u4 u5 u7 u8 u9 u10 u11 u12 u13 u14 u15 u16 u17 u18 u19 u20 u21 u22 u23 u24 u25 u26 u27 u28 u29 u30 u31 u32 u33 u34 u35 u36 u37 u38 u39 u40 u41 u42 u43 u44 u45 u46 u47 u48 : Value), a = { tmps := #[v0, v1, u2, u3, u4, u5, .int .i64 e, u7, u8, u9, u10, u11, u12, u13, u14, u15, u16, u17, u18, u19, u20, u21, u22, u23, u24, u25, u26, u27, u28, u29, u30, u31, u32, u33, u34, u35, u36, u37, u38, u39, u40, u41, u42, u43, u44, u45, u46, u47, u48], defers := [] } ∧ R e w

/-- What a call makes of a journal. -/
def JTurned (S : Nat → Prop) (w w' : World) (bj b start n seq : Nat) (k : Dk Sx) : Prop :=
  Kept (fun i => S i ∨ i = bj) w w' ∧ ∃ S', IsDisk sx w' S' b k ∧ (∀ i, S' i → S i ∨ w.heap.size ≤ i) ∧ JB w' bj b start n seq ∧ ¬ S' bj

section
variable {w : World} {S T : Nat → Prop} {bj b start n seq : Nat} {k : Dk Sx} {A : Option Addr}

theorem JTurned.same (hJ : JB w bj b start n seq) (hD : IsDisk sx w S b k) (hb : ¬ S bj) {w' : World} (h : Below w.heap.size w w') : JTurned S w w' bj b start n seq k :=
  ⟨Kept.of_below h, S, hD.below h, fun _i hi => .inl hi, (h.block bj hJ.lt).trans hJ, hb⟩
theorem JTurned.of {w' : World} (hJ : JB w bj b start n seq) (hb : ¬ S bj) (h : Turned sx S w w' b k) : JTurned S w w' bj b start n seq k := by
  obtain ⟨hK, S', hD, hS⟩ := h
  exact ⟨⟨hK.os, hK.tape, hK.output, hK.size, fun i hi hs => hK.block i hi fun h => hs (.inl h)⟩, S', hD, hS, (hK.block bj hJ.lt hb).trans hJ, fun hs => by
    rcases hS bj hs with h | h
    · exact hb h
    · have := hJ.lt; omega⟩

theorem commit_nil (w : World) (u : Value) : Calls Tryz.prog 10 #[.pointer none, u] w fun e w' => e = .returned (.int .i64 2) ∧ w = w' := by
  go_enter Tryz.func10, Tryz.ntmps10
  go_wp2
  go_step3
  go_wp2
  rw [Exit.noGoto_ret]
  go_ret
  exact ⟨rfl, rfl⟩
theorem commit_none (w : World) (bj : Nat) (A : Option Addr) (c : Nat) : Calls Tryz.prog 10 #[.pointer (some ⟨bj, 0, none⟩), .slice A 0 c] w fun e w' => e = .returned (.int .i64 0) ∧ w = w' := by
  go_enter Tryz.func10, Tryz.ntmps10
  go_wp2
  go_step3
  go_wp2
  rw [Exit.noGoto_ret]
  go_ret
  exact ⟨rfl, rfl⟩

set_option maxRecDepth 100000 in
set_option maxHeartbeats 1600000 in
theorem commit_bad (hJ : JB w bj b start n seq) (hD : IsDisk sx w S b k) (hs : start ≤ 4096) (hn3 : 3 ≤ n) (hn : n ≤ 4096) (hq : seq < 18446744073709551615) (L : List (Int × Sx)) (hL : Pats w T A L) (m c : Nat) (hm : L.length = m) (h0 : 0 < m) (hmm : m ≤ 100000)
    (hbad : refuseE k.safe.length start n L ≠ 0) :
    Calls Tryz.prog 10 #[.pointer (some ⟨bj, 0, none⟩), .slice A m c] w fun e w' => e = .returned (.int .i64 (refuseE k.safe.length start n L)) ∧ Below w.heap.size w w' := by
  have hR := refuse_any (w := w.drew) (c := c) (hJ : JB w.drew bj b start n seq) (hD.keep fun _ _ => rfl) hs hn3 hn hq L (hL.keep (Nat.le_refl _) fun _ _ _ => rfl) m hm (by omega)
  have HR := Lib.hid hR
  have c3 := hJ.cell 3
  have Hlt := Lib.hid hJ.lt
  have hwr : IntKind.u64.wrap ((seq : Int) + 1) = ((seq + 1 : Nat) : Int) := by rw [IntKind.wrap_u64]; omega
  obtain ⟨er, her⟩ : ∃ er, er = refuseE k.safe.length start n L := ⟨_, rfl⟩
  rw [← her] at HR hbad ⊢
  have hbb : (er != 0) = true := by simp [hbad]
  have hm0 : ((m : Int) == 0) = false := beq_eq_false_iff_ne.2 (by omega)
  clear hJ hD hL hm hR her
  go_enter Tryz.func10, Tryz.ntmps10
  go_wp2
  refine wp_scope_labels 0 0 (fun _ _ => False) (CFail (.pointer (some ⟨bj, 0, none⟩)) (.slice A m c) (fun e w' => e = er ∧ Below w.heap.size w w')) (fun _ _ => 0) rfl rfl ?_ (fun _ _ h => h.elim) ?_
  · go_wp2
    go_region_held3 (fun w' : World => w'.cell? ⟨bj, 3, none⟩ = some (.int .u64 (seq : Int)))
      (first | exact c3 | assumption)
      (first | (go_at_call 29; (refine HR.out.mono ?_); rintro e w1 ⟨rfl, hb1⟩; have HB1 := Lib.hid ((Below.refl _ w).drew.trans hb1); have d3 := (hb1.cell (p := ⟨bj, 3, none⟩) Hlt.out).trans c3; clear hb1))
    go_wp2
    go_step3
    exact .inr ⟨rfl, _, _, _, _, _, _, _, _, _, _, _, _, _, _, _, _, _, _, _, _, _, _, _, _, _, _, _, _, _, _, _, _, _, _, _, _, _, _, _, _, _, _, _, _, _, _, _, rfl, rfl, HB1.out⟩
  · rintro a w1 ⟨e, u2, u3, u4, u5, u7, u8, u9, u10, u11, u12, u13, u14, u15, u16, u17, u18, u19, u20, u21, u22, u23, u24, u25, u26, u27, u28, u29, u30, u31, u32, u33, u34, u35, u36, u37, u38, u39, u40, u41, u42, u43, u44, u45, u46, u47, u48, rfl, rfl, hR⟩
    go_wp2
    rw [jumps_ret]
    go_ret
    exact ⟨rfl, hR⟩

/-- On the way through a commit. -/
structure Mid (w0 : World) (S0 T : Nat → Prop) (bj b start n seq : Nat) (A : Option Addr) (l : List (Nat × Sx)) (w : World) (S : Nat → Prop) (k : Dk Sx) : Prop where
  kept : Kept S0 w0 w
  disk : IsDisk sx w S b k
  sub : ∀ i, S i → S0 i ∨ w0.heap.size ≤ i
  jb : JB w bj b start n seq
  pats : Pats w T A (ints l)
  nbj : ¬ S0 bj
  lbj : bj < w0.heap.size
  apart : ∀ t, T t → ¬ S0 t ∧ t < w0.heap.size
section
variable {w0 w w' : World} {S0 S T : Nat → Prop} {bj b start n seq : Nat} {k k' : Dk Sx} {A : Option Addr} {l : List (Nat × Sx)}
theorem Mid.off (h : Mid w0 S0 T bj b start n seq A l w S k) : ¬ S bj := fun hs => by
  rcases h.sub bj hs with h1 | h1
  · exact h.nbj h1
  · have := h.lbj; omega
theorem Mid.clear (h : Mid w0 S0 T bj b start n seq A l w S k) : ∀ t, T t → ¬ S t := fun t ht hs => by
  rcases h.sub t hs with h1 | h1
  · exact (h.apart t ht).1 h1
  · have := (h.apart t ht).2; omega
theorem Mid.below (h : Mid w0 S0 T bj b start n seq A l w S k) (hb : Below w.heap.size w w') : Mid w0 S0 T bj b start n seq A l w' S k :=
  ⟨h.kept.trans (Kept.of_below (S := S0) hb) fun _i hi => .inl hi, h.disk.below hb, h.sub, (hb.block bj h.jb.lt).trans h.jb, h.pats.below hb, h.nbj, h.lbj, h.apart⟩
theorem Mid.turn (h : Mid w0 S0 T bj b start n seq A l w S k) (ht : Turned sx S w w' b k') : ∃ S', Mid w0 S0 T bj b start n seq A l w' S' k' := by
  obtain ⟨hK, S', hD, hS⟩ := ht
  refine ⟨S', h.kept.trans hK h.sub, hD, fun i hi => ?_, (hK.block bj h.jb.lt h.off).trans h.jb, h.pats.keep hK.size fun i hi hlt => hK.block i hlt (h.clear i hi), h.nbj, h.lbj, h.apart⟩
  rcases hS i hi with h1 | h1
  · exact h.sub i h1
  · exact .inr (Nat.le_trans h.kept.size h1)
theorem Mid.done (h : Mid w0 S0 T bj b start n seq A l w S k) : JTurned S0 w0 w bj b start n seq k :=
  ⟨⟨h.kept.os, h.kept.tape, h.kept.output, h.kept.size, fun i hi hs => h.kept.block i hi fun h1 => hs (.inl h1)⟩, S, h.disk, h.sub, h.jb, h.off⟩
theorem Mid.seqd (h : Mid w0 S0 T bj b start n seq A l w S k) (q : Nat) : JTurned S0 w0 (w.setCell ⟨bj, 3, none⟩ (.int .u64 (q : Int))) bj b start n q k := by
  have hk : ∀ i, i ≠ bj → (w.setCell ⟨bj, 3, none⟩ (.int .u64 (q : Int))).heap[i]? = w.heap[i]? := fun i hi => Below.heap_setCell w ⟨bj, 3, none⟩ _ i hi
  refine ⟨⟨h.kept.os, h.kept.tape, h.kept.output, by simpa using h.kept.size, fun i hi hs => (hk i fun e => hs (.inr e)).trans (h.kept.block i hi fun h1 => hs (.inl h1))⟩, S, h.disk.keep fun i hi => hk i fun e => h.off (e ▸ hi), h.sub, h.jb.set 3 _, h.off⟩

theorem refuse_ok {m start n : Nat} {l : List (Nat × Sx)} (h : refuseE m start n (ints l) = 0) : l.length ≤ room n ∧ ∀ p ∈ l, takesB m start n (p.1 : Int) = true := by
  unfold refuseE at h
  split at h
  · cases h
  · rename_i h1
    split at h
    · cases h
    · rename_i h2
      refine ⟨by rw [ints, List.length_map] at h1; omega, fun p hp => ?_⟩
      have h3 : anyWrong m start n (ints l) = false := by simpa using h2
      rw [anyWrong, List.any_eq_false] at h3
      have := h3 ((p.1 : Int), p.2) (by rw [ints, List.mem_map]; exact ⟨p, hp, rfl⟩)
      simpa using this
theorem takes_lt {m start n s : Nat} (h : takesB m start n (s : Int) = true) : s < m ∧ (s < start ∨ start + n ≤ s) := by
  simp only [takesB, Bool.and_eq_true, Bool.or_eq_true, decide_eq_true_eq] at h
  omega


theorem commit_1 {x1 : Int} {k1 : Dk Sx} (h1 : k.writes (placed (start + 1) (stored l)) = (x1, k1)) (hx : x1 ≠ 0) : k.commit start seq l = (x1, k1) := by
  unfold Dk.commit; rw [h1]; simp [hx]
theorem commit_2 {x2 : Int} {k1 k2 : Dk Sx} (h1 : k.writes (placed (start + 1) (stored l)) = (0, k1)) (h2 : k1.writes [(start, headS (seq + 1) l.length)] = (x2, k2)) (hx : x2 ≠ 0) : k.commit start seq l = (x2, k2) := by
  unfold Dk.commit Dk.tell; rw [h1]; simp only; rw [h2]; simp [hx]
theorem commit_3 {x3 : Int} {k1 k2 k3 : Dk Sx} (h1 : k.writes (placed (start + 1) (stored l)) = (0, k1)) (h2 : k1.writes [(start, headS (seq + 1) l.length)] = (0, k2)) (h3 : k2.finish start (seq + 1) l = (x3, k3)) : k.commit start seq l = (x3, k3) := by
  unfold Dk.commit Dk.tell; rw [h1]; simp only; rw [h2]; simp [h3]
/-- What a commit ends in. -/
def CRes (S : Nat → Prop) (w : World) (bj b start n seq : Nat) (c : Int × Dk Sx) (v : Int) (w' : World) : Prop := v = c.1 ∧ JTurned S w w' bj b start n (if c.1 = 0 then seq + 1 else seq) c.2
theorem CRes.bad {c : Int × Dk Sx} {v : Int} (hc : c = (v, k)) (hv : v ≠ 0) (h : JTurned S w w' bj b start n seq k) : CRes S w bj b start n seq c v w' := by
  subst hc; exact ⟨rfl, by simpa [hv] using h⟩
theorem CRes.good {c : Int × Dk Sx} (hc : c = (0, k)) (h : JTurned S w w' bj b start n (seq + 1) k) : CRes S w bj b start n seq c 0 w' := by
  subst hc; exact ⟨rfl, by simpa using h⟩

set_option maxRecDepth 100000 in
set_option maxHeartbeats 3200000 in
theorem commit_good (hJ : JB w bj b start n seq) (hD : IsDisk sx w S b k) (hb : ¬ S bj) (hs : start ≤ 4096) (hn3 : 3 ≤ n) (hn : n ≤ 4096) (hq : seq < 18446744073709551615) (b0 o0 : Nat) (hL : Pats w T (some ⟨b0, o0, none⟩) (ints l)) (hT : ∀ t, T t → ¬ S t ∧ t < w.heap.size) (m c : Nat) (hm : l.length = m) (h0 : 0 < m) (hmc : m ≤ c)
    (hok : refuseE k.safe.length start n (ints l) = 0) (hsn : start + n ≤ k.safe.length) (hlen : k.safe.length ≤ 4096) (hun : k.un.length ≤ 100000) :
    Calls Tryz.prog 10 #[.pointer (some ⟨bj, 0, none⟩), .slice (some ⟨b0, o0, none⟩) m c] w fun e w' => e = .returned (.int .i64 (k.commit start seq l).1) ∧ JTurned S w w' bj b start n (if (k.commit start seq l).1 = 0 then seq + 1 else seq) (k.commit start seq l).2 := by
  obtain ⟨hroom, hval⟩ := refuse_ok hok
  have hm4 : m ≤ 4096 := by unfold room at hroom; omega
  have hR := refuse_any (w := w.drew) (c := c) (hJ : JB w.drew bj b start n seq) (hD.keep fun _ _ => rfl) hs hn3 hn hq (ints l) (hL.keep (Nat.le_refl _) fun _ _ _ => rfl) m (by rw [ints, List.length_map]; exact hm) (by omega)
  rw [hok] at hR
  have HR := Lib.hid hR
  have hM : Mid w S T bj b start n seq (some ⟨b0, o0, none⟩) l w S k := ⟨Kept.refl _ _, hD, fun i hi => .inl hi, hJ, hL, hb, hJ.lt, hT⟩
  have HM := Lib.hid hM
  have c3 := hJ.cell 3
  have Hlt := Lib.hid hJ.lt
  have hwr : IntKind.u64.wrap ((seq : Int) + 1) = ((seq + 1 : Nat) : Int) := by rw [IntKind.wrap_u64]; omega
  have hm0 : ((m : Int) == 0) = false := beq_eq_false_iff_ne.2 (by omega)
  have hst : (stored l).length + 1 ≤ n := by rw [length_stored, hm]; unfold room at hroom; omega
  have Hst := Lib.hid hst
  have Hval : Hid (∀ p ∈ l, p.1 < k.safe.length) := fun p hp => (takes_lt (hval p hp)).1
  have Hpl : Hid (∀ p ∈ placed (start + 1) (stored l), p.1 < k.safe.length) := fun p hp => by have := (placed_mem hp).2.1; omega
  have Hm := Lib.hid hm
  have Hsn := Lib.hid hsn
  have Hun := Lib.hid hun
  have Hlen := Lib.hid hlen
  clear hJ hD hL hm hR hok hroom hval hst hT hb hsn hun hM hlen
  have e1 : (k.writes (placed (start + 1) (stored l))).2.safe.length = k.safe.length := Dk.writes_len _ _
  have e2 : (k.writes (placed (start + 1) (stored l))).2.un.length ≤ 110000 := by have := Dk.writes_un (placed (start + 1) (stored l)) k; rw [length_placed] at this; have := Hst.out; have := Hun.out; omega
  generalize hr1 : k.writes (placed (start + 1) (stored l)) = r1 at *
  obtain ⟨x1, k1⟩ := r1
  have f1 := Dk.writes_len [(start, headS (seq + 1) l.length)] k1
  have f2 := Dk.writes_un [(start, headS (seq + 1) l.length)] k1
  generalize hr2 : k1.writes [(start, headS (seq + 1) l.length)] = r2 at f1 f2
  obtain ⟨x2, k2⟩ := r2
  generalize hr3 : k2.finish start (seq + 1) l = r3
  obtain ⟨x3, k3⟩ := r3
  simp only [List.length_singleton] at e1 e2 f1 f2 ⊢
  have Hr1 := Lib.hid hr1
  have Hr2 := Lib.hid hr2
  have Hr3 := Lib.hid hr3
  have E1 := Lib.hid e1
  have E2 := Lib.hid e2
  have F1 := Lib.hid (f1.trans e1)
  have F2 : Hid (k2.un.length ≤ 110001) := by show _ ≤ _; omega
  generalize hcc : k.commit start seq l = cc
  have Hcc := Lib.hid hcc
  clear hcc
  clear e1 e2 f1 f2 hr1 hr2 hr3
  go_enter Tryz.func10, Tryz.ntmps10
  go_wp2
  refine wp_scope_labels 0 0 (fun _ _ => False) (CFail (.pointer (some ⟨bj, 0, none⟩)) (.slice (some ⟨b0, o0, none⟩) m c) (CRes S w bj b start n seq cc)) (fun _ _ => 0) rfl rfl ?_ (fun _ _ h => h.elim) ?_
  · go_wp2
    go_region_held3 (fun w' : World => w'.cell? ⟨bj, 3, none⟩ = some (.int .u64 (seq : Int)))
      (first | exact c3 | assumption)
      (first | (go_at_call 29; (refine HR.out.mono ?_); rintro e w1 ⟨rfl, hb1⟩; have HB1 := Lib.hid ((Below.refl _ w).drew.trans hb1); have d3 := (hb1.cell (p := ⟨bj, 3, none⟩) Hlt.out).trans c3; clear hb1))
    have HM1 := Lib.hid (HM.out.below HB1.out)
    clear c3 d3
    go_wp2_with fail
    refine (stored_any HM1.out.jb HM1.out.pats m c Hm.out h0 (by omega) hmc hs (fun p hp => by have := Hval.out p hp; have := Hlen.out; omega)).mono ?_
    rintro e w2 ⟨gs, cap, rfl, hcap, hP, hb2⟩
    have HM2 := Lib.hid (HM1.out.below hb2)
    have HP := Lib.hid (hP.more (T' := fun i => ¬ S i) fun i _ hi hs => by
      rcases hi with h | h
      · exact (HM.out.apart i h).1 hs
      · have := HM.out.disk.lt hs; have := HM1.out.kept.size; omega)
    obtain ⟨ms, hms⟩ : ∃ ms, ms = (stored l).length := ⟨_, rfl⟩
    rw [← hms] at hcap ⊢
    have Hms : Hid ((placed (start + 1) (stored l)).length = ms) := by show _ = _; rw [length_placed, hms]
    have hms4 : ms ≤ 4096 := by have := Hst.out; omega
    clear hP hb2 hms
    go_wp2_with fail
    refine (jwrite_any HM2.out.jb HM2.out.disk HM2.out.off HP.out (fun t ht => ht) ms cap Hms.out Hpl.out (by have := Hun.out; omega)).mono ?_
    rintro e w3 ⟨rfl, hT3⟩
    rw [Hr1.out] at hT3 ⊢
    obtain ⟨S3, hM3⟩ := HM2.out.turn hT3
    have HM3 := Lib.hid hM3
    clear hM3 hT3
    by_cases h1 : x1 = 0
    · subst h1
      go_wp2_with fail
      refine (head_any w3 bj b start n seq (seq + 1) m HM3.out.jb (by omega) (by omega)).mono ?_
      rintro e w4 ⟨gh, rfl, hP4, hb4⟩
      have HM4 := Lib.hid (HM3.out.below hb4)
      have HP4 := Lib.hid (hP4.more (T' := fun i => ¬ S3 i) fun i _ hi hs => by have hi' : w3.heap.size ≤ i := hi; have := HM3.out.disk.lt hs; omega)
      have Hst4 : Hid (∀ p ∈ [(start, headS (seq + 1) m)], p.1 < k1.safe.length) := fun p hp => by
        simp only [List.mem_singleton] at hp
        subst hp
        rw [E1.out]; have := Hsn.out; show start < _; omega
      clear hP4 hb4
      go_wp2_with fail
      refine (jwrite_any (g := [(start, headS (seq + 1) m)]) HM4.out.jb HM4.out.disk HM4.out.off HP4.out (fun t ht => ht) 1 1 rfl Hst4.out (by have := E2.out; omega)).mono ?_
      rintro e w5 ⟨rfl, hT5⟩
      have hr2' := Hr2.out
      rw [Hm.out] at hr2'
      rw [hr2'] at hT5 ⊢
      obtain ⟨S5, hM5⟩ := HM4.out.turn hT5
      have HM5 := Lib.hid hM5
      clear hM5 hT5 hr2'
      by_cases h2 : x2 = 0
      · subst h2
        go_wp2_with fail
        refine (finish_any (start := start) HM5.out.jb HM5.out.disk HM5.out.off HM5.out.pats HM5.out.clear m c Hm.out (fun p hp => by rw [F1.out]; exact Hval.out p hp) (by rw [F1.out]; have := Hsn.out; omega) (by have := F2.out; omega) (seq + 1) (by omega)).mono ?_
        rintro e w6 ⟨rfl, hT6⟩
        rw [Hr3.out] at hT6 ⊢
        obtain ⟨S6, hM6⟩ := HM5.out.turn hT6
        have HM6 := Lib.hid hM6
        have c6 := hM6.jb.cell 3
        have f6 := hM6.jb.frozen 3
        clear hM6 hT6
        by_cases h3 : x3 = 0
        · subst h3
          go_wp2
          rw [jumps_ret]
          go_ret
          have hfin := CRes.good (Hcc.out.symm.trans (commit_3 Hr1.out Hr2.out Hr3.out)) (HM6.out.seqd (seq + 1))
          exact ⟨by rw [← hfin.1]; rfl, hfin.2⟩
        · have hbb : (x3 != 0) = true := by simp [h3]
          go_wp2
          go_step3
          exact .inr ⟨rfl, _, _, _, _, _, _, _, _, _, _, _, _, _, _, _, _, _, _, _, _, _, _, _, _, _, _, _, _, _, _, _, _, _, _, _, _, _, _, _, _, _, _, _, _, _, _, _, rfl, CRes.bad (Hcc.out.symm.trans (commit_3 Hr1.out Hr2.out Hr3.out)) h3 HM6.out.done⟩
      · have hbb : (x2 != 0) = true := by simp [h2]
        go_wp2
        go_step3
        exact .inr ⟨rfl, _, _, _, _, _, _, _, _, _, _, _, _, _, _, _, _, _, _, _, _, _, _, _, _, _, _, _, _, _, _, _, _, _, _, _, _, _, _, _, _, _, _, _, _, _, _, _, rfl, CRes.bad (Hcc.out.symm.trans (commit_2 Hr1.out Hr2.out h2)) h2 HM5.out.done⟩
    · have hbb : (x1 != 0) = true := by simp [h1]
      go_wp2
      go_step3
      exact .inr ⟨rfl, _, _, _, _, _, _, _, _, _, _, _, _, _, _, _, _, _, _, _, _, _, _, _, _, _, _, _, _, _, _, _, _, _, _, _, _, _, _, _, _, _, _, _, _, _, _, _, rfl, CRes.bad (Hcc.out.symm.trans (commit_1 Hr1.out h1)) h1 HM3.out.done⟩
  · rintro a w1 ⟨e, u2, u3, u4, u5, u7, u8, u9, u10, u11, u12, u13, u14, u15, u16, u17, u18, u19, u20, u21, u22, u23, u24, u25, u26, u27, u28, u29, u30, u31, u32, u33, u34, u35, u36, u37, u38, u39, u40, u41, u42, u43, u44, u45, u46, u47, u48, rfl, hR⟩
    go_wp2
    rw [jumps_ret]
    go_ret
    exact ⟨by rw [hR.1]; rfl, hR.2⟩
end
end
end Go.Proofs.YtaflpigpeckhoaaGreat

/-
  A journal is opened.
-/
namespace Go.Proofs.YtaflpigpeckhoaaGreat
open Go.RowKit
attribute [local go_sem ↓] Go.wp_at_zero Go.wp_at_succ

/-- Where Open's failed steps come together. -/
def OFail (v0 v1 v2 : Value) (R : Int → World → Prop) (a : Act) (w : World) : Prop :=
  ∃ (e : Int) (u3 u4 u5 u6 u7 u8 u9 u10 u11 u13 u14 u15 u16 u17 u18 u19 u20 u21 u22 u23 u24 u25 u26 u27 u28 u29 u30 u31 u32 u33 u34 u35 u36 u37 u38 u39 u40 u41 u42 u43 u44 u45 u46 u47 u48 u49 u50 u51 u52 u53 u54 u55 u56 u57 : Value), a = { tmps := #[v0, v1, v2, u3, u4, u5, u6, u7, u8, u9, u10, u11, .int .i64 e, u13, u14, u15, u16, u17, u18, u19, u20, u21, u22, u23, u24, u25, u26, u27, u28, u29, u30, u31, u32, u33, u34, u35, u36, u37, u38, u39, u40, u41, u42, u43, u44, u45, u46, u47, u48, u49, u50, u51, u52, u53, u54, u55, u56, u57], defers := [] } ∧ R e w

def Dk.opened (k : Dk Sx) (start q : Nat) (l : List (Nat × Sx)) : Int × Dk Sx := if l = [] then (0, k) else k.finish start q l

section
variable {w : World} {S : Nat → Prop} {b start n : Nat} {k : Dk Sx}
theorem open_nil (w : World) (s n : Int) : Calls Tryz.prog 6 #[.pointer none, .int .i64 s, .int .i64 n] w fun e w' => e = .returned (.tuple #[.pointer none, .int .i64 0, .int .i64 2]) ∧ w = w' := by
  go_enter Tryz.func6, Tryz.ntmps6
  go_wp2
  refine wp_scope_labels 0 0 (fun _ _ => False) (OFail (.pointer none) (.int .i64 s) (.int .i64 n) (fun e w' => e = 2 ∧ w = w')) (fun _ _ => 0) rfl rfl ?_ (fun _ _ h => h.elim) ?_
  · go_wp2_with (go_at_call 19; refine (misplaced_nil _ _ _).mono ?_; rintro e w' ⟨rfl, rfl⟩)
    go_step3
    exact .inr ⟨rfl, _, _, _, _, _, _, _, _, _, _, _, _, _, _, _, _, _, _, _, _, _, _, _, _, _, _, _, _, _, _, _, _, _, _, _, _, _, _, _, _, _, _, _, _, _, _, _, _, _, _, _, _, _, _, _, rfl, rfl, rfl⟩
  · rintro a w1 ⟨e, u3, u4, u5, u6, u7, u8, u9, u10, u11, u13, u14, u15, u16, u17, u18, u19, u20, u21, u22, u23, u24, u25, u26, u27, u28, u29, u30, u31, u32, u33, u34, u35, u36, u37, u38, u39, u40, u41, u42, u43, u44, u45, u46, u47, u48, u49, u50, u51, u52, u53, u54, u55, u56, u57, rfl, rfl, rfl⟩
    go_wp2
    rw [jumps_ret]
    go_ret3
    exact ⟨rfl, rfl⟩

/-- What an opening ends in. -/
def ORes (S : Nat → Prop) (w : World) (b start n q m : Nat) (c : Int × Dk Sx) (v : Value) (w' : World) : Prop :=
  (c.1 = 0 ∧ ∃ bj, v = .tuple #[.pointer (some ⟨bj, 0, none⟩), .int .i64 (m : Int), .int .i64 0] ∧ w.heap.size ≤ bj ∧ Kept S w w' ∧ ∃ S', IsDisk sx w' S' b c.2 ∧ (∀ i, S' i → S i ∨ w.heap.size ≤ i) ∧ JB w' bj b start n q ∧ ¬ S' bj) ∨
  (c.1 ≠ 0 ∧ v = .tuple #[.pointer none, .int .i64 0, .int .i64 c.1] ∧ Turned sx S w w' b c.2)

set_option maxRecDepth 100000 in
set_option maxHeartbeats 3200000 in
theorem open_good (hD : IsDisk sx w S b k) (hd : k.dead = false) (hs : start ≤ 4096) (hn3 : 3 ≤ n) (hn : n ≤ 4096) (hsn : start + n ≤ k.safe.length) (hlen : k.safe.length ≤ 4096) (hun : k.un.length ≤ 100000) (c : Sx) (hc : k.now[start]? = some c) (q : Nat) (l : List (Nat × Sx)) (m : Nat) (hm : l.length = m) (hh : IsHead c q m) (hr : m ≤ room n)
    (hL : Loads k.now start l) (hp : ∀ p ∈ l, takesB k.safe.length start n (p.1 : Int) = true) :
    Calls Tryz.prog 6 #[.pointer (some ⟨b, 0, none⟩), .int .i64 (start : Int), .int .i64 (n : Int)] w fun e w' => ∃ v, e = .returned v ∧ ORes S w b start n q m (k.opened start q l) v w' := by
  have hm4 : m ≤ 4096 := by unfold room at hr; omega
  have hql := hh.lt.1
  have HD := Lib.hid hD
  have Hd := Lib.hid hd
  have Hc := Lib.hid hc
  have Hh := Lib.hid hh
  have HL := Lib.hid hL
  have Hp := Lib.hid hp
  have Hm := Lib.hid hm
  have Hsn := Lib.hid hsn
  have Hlen := Lib.hid hlen
  have Hun := Lib.hid hun
  have HMis := Lib.hid (misplaced_any hD hn3 hn hlen hsn)
  generalize hcc : k.opened start q l = cc
  have Hcc := Lib.hid hcc
  clear hD hd hc hh hL hp hm hsn hlen hun hcc
  have e1 : (w.alloc (.cells #[.pointer (some ⟨b, 0, none⟩), .int .i64 (start : Int), .int .i64 (n : Int), .int .u64 0] 69)).heap.size = w.heap.size + 1 := by simp
  have hB0 := Bk.new w 69 [.pointer (some ⟨b, 0, none⟩), .int .i64 (start : Int), .int .i64 (n : Int), .int .u64 0]
  have hJ0 : JB (w.alloc (.cells #[.pointer (some ⟨b, 0, none⟩), .int .i64 (start : Int), .int .i64 (n : Int), .int .u64 0] 69)) w.heap.size b start n 0 := hB0
  have hb0 : Below w.heap.size w (w.alloc (.cells #[.pointer (some ⟨b, 0, none⟩), .int .i64 (start : Int), .int .i64 (n : Int), .int .u64 0] 69)) := (Below.refl _ _).alloc (Nat.le_refl _) _
  have HB0 := Lib.hid hB0
  have HJ0 := Lib.hid hJ0
  have Hb0 := Lib.hid hb0
  have E1 := Lib.hid e1
  clear hB0 hJ0 hb0 e1
  go_enter Tryz.func6, Tryz.ntmps6
  go_wp2
  refine wp_scope_labels 0 0 (fun _ _ => False) (OFail (.pointer (some ⟨b, 0, none⟩)) (.int .i64 (start : Int)) (.int .i64 (n : Int)) (fun e w' => ORes S w b start n q m cc (.tuple #[.pointer none, .int .i64 0, .int .i64 e]) w')) (fun _ _ => 0) rfl rfl ?_ (fun _ _ h => h.elim) ?_
  · go_wp2_with (go_at_call 19; refine HMis.out.mono ?_; rintro e w' ⟨rfl, rfl⟩)
    refine (readHead_any HJ0.out (HD.out.below Hb0.out) hn3 hn Hd.out c Hc.out q m Hh.out hr).mono ?_
    rintro e w1 ⟨rfl, hb1⟩
    have hJ1 : JB w1 w.heap.size b start n 0 := (hb1.block w.heap.size (by rw [E1.out]; exact Nat.lt_succ_self _)).trans HJ0.out
    have cz := hJ1.cell 3
    have fz := hJ1.frozen 3
    have hBel : Below w.heap.size w (w1.setCell ⟨w.heap.size, 3, none⟩ (.int .u64 (q : Int))) := (Hb0.out.trans (hb1.mono Hb0.out.size)).setCell (p := ⟨w.heap.size, 3, none⟩) (Nat.le_refl _) _
    have hJ2 : JB (w1.setCell ⟨w.heap.size, 3, none⟩ (.int .u64 (q : Int))) w.heap.size b start n q := hJ1.set 3 _
    obtain ⟨w2, hw2⟩ : ∃ w2, w2 = w1.setCell ⟨w.heap.size, 3, none⟩ (.int .u64 (q : Int)) := ⟨_, rfl⟩
    rw [← hw2] at hBel hJ2
    have c2 := hJ2.cell 3
    have HB2 := Lib.hid hBel
    have HJ2 := Lib.hid hJ2
    have HW2 := Lib.hid hw2
    have hnS : ¬ S w.heap.size := fun h => by have := HD.out.lt h; omega
    have HnS := Lib.hid hnS
    clear hb1 hJ1 hBel hJ2 hw2 hnS
    by_cases hm0 : m = 0
    · subst hm0
      clear c2
      go_wp2
      rw [jumps_ret]
      go_ret3
      refine ⟨_, rfl, .inl ?_⟩
      have hl : l = [] := List.eq_nil_of_length_eq_zero Hm.out
      have hcc : cc = (0, k) := by rw [← Hcc.out, Dk.opened, if_pos hl]
      rw [hcc, ← HW2.out]
      exact ⟨rfl, w.heap.size, rfl, Nat.le_refl _, Kept.of_below HB2.out, S, HD.out.below HB2.out, fun i hi => .inl hi, HJ2.out, HnS.out⟩
    · have hmb : ((m : Int) == 0) = false := beq_eq_false_iff_ne.2 (by omega)
      have Hl := Lib.hid (jload_any (S := S) (k := k) HJ2.out (HD.out.below HB2.out) Hd.out hs hn l m Hm.out hm4 HL.out (fun p hp => ⟨by have := (takes_lt (Hp.out p hp)).1; have := Hlen.out; omega, Hp.out p hp⟩))
      go_wp2_with fail
      rw [← HW2.out]
      refine Hl.out.mono ?_
      rintro e w3 ⟨gl, rfl, hP3, hb3⟩
      have hJ3 : JB w3 w.heap.size b start n q := (hb3.block _ HJ2.out.lt).trans HJ2.out
      have hD3 : IsDisk sx w3 S b k := (HD.out.below HB2.out).below hb3
      have hP3' : Pats w3 (fun i => ¬ S i) (some ⟨gl, 0, none⟩) (ints l) := hP3.more fun i _ hi hs => by have hi' : w2.heap.size ≤ i := hi; have := HD.out.lt hs; have := HB2.out.size; omega
      have Hb3 := Lib.hid (HB2.out.trans (hb3.mono HB2.out.size))
      have HJ3 := Lib.hid hJ3
      have HD3 := Lib.hid hD3
      have HP3 := Lib.hid hP3'
      have c3 := hJ3.cell 3
      clear hP3 hb3 hJ3 hD3 hP3' c2
      go_wp2_with fail
      refine (finish_any (start := start) HJ3.out HD3.out HnS.out HP3.out (fun t ht => ht) m m Hm.out (fun p hp => (takes_lt (Hp.out p hp)).1) (by have := Hsn.out; omega) (by have := Hun.out; omega) q hql).mono ?_
      rintro e w4 ⟨rfl, hT4⟩
      have hcc : cc = k.finish start q l := by rw [← Hcc.out, Dk.opened, if_neg (fun h => hm0 (by rw [← Hm.out, h]; rfl))]
      rw [← hcc] at hT4 ⊢
      have hTw : Turned sx S w w4 b cc.2 := Turned.trans (Kept.of_below Hb3.out) (fun t ht => .inl ht) hT4
      have hJ4 : JB w4 w.heap.size b start n q := (hT4.1.block _ HJ3.out.lt HnS.out).trans HJ3.out
      have Hfin : Hid (∃ S', IsDisk sx w4 S' b cc.2 ∧ (∀ i, S' i → S i ∨ w.heap.size ≤ i) ∧ ¬ S' w.heap.size) := by
        obtain ⟨_, S', hD', hS'⟩ := hT4
        refine ⟨S', hD', fun i hi => (hS' i hi).elim .inl fun h => .inr (Nat.le_trans Hb3.out.size h), fun h => ?_⟩
        rcases hS' _ h with h1 | h1
        · exact HnS.out h1
        · have := HJ3.out.lt; omega
      have HTw := Lib.hid hTw
      have HJ4 := Lib.hid hJ4
      clear hT4 hTw hJ4 hcc c3
      obtain ⟨x, k4⟩ := cc
      simp only at HTw Hfin ⊢
      by_cases hx : x = 0
      · subst hx
        go_wp2
        rw [jumps_ret]
        go_ret3
        refine ⟨_, rfl, .inl ⟨rfl, w.heap.size, rfl, Nat.le_refl _, HTw.out.1, ?_⟩⟩
        obtain ⟨S', hD', hS', hn'⟩ := Hfin.out
        exact ⟨S', hD', hS', HJ4.out, hn'⟩
      · have hbb : (x != 0) = true := by simp [hx]
        go_wp2
        go_step3
        exact .inr ⟨rfl, _, _, _, _, _, _, _, _, _, _, _, _, _, _, _, _, _, _, _, _, _, _, _, _, _, _, _, _, _, _, _, _, _, _, _, _, _, _, _, _, _, _, _, _, _, _, _, _, _, _, _, _, _, _, _, rfl, .inr ⟨hx, rfl, HTw.out⟩⟩
  · rintro a w1 ⟨e, u3, u4, u5, u6, u7, u8, u9, u10, u11, u13, u14, u15, u16, u17, u18, u19, u20, u21, u22, u23, u24, u25, u26, u27, u28, u29, u30, u31, u32, u33, u34, u35, u36, u37, u38, u39, u40, u41, u42, u43, u44, u45, u46, u47, u48, u49, u50, u51, u52, u53, u54, u55, u56, u57, rfl, hR⟩
    go_wp2
    rw [jumps_ret]
    go_ret3
    exact ⟨_, rfl, hR⟩
end
end Go.Proofs.YtaflpigpeckhoaaGreat

/-
  What a commit, an opening and a power failure make of a disk, on paper: a journal at any place of a disk of any size.
-/
namespace Go.Proofs.YtaflpigpeckhoaaGreat.Jrn
open Go.Proofs.YtaflpigpeckhoaaGreat
open Go.RowKit

section
variable {α : Type}
theorem puts_mem {l : List (Nat × α)} : ∀ {L : List α} {x : α}, x ∈ puts L l → x ∈ L ∨ ∃ p ∈ l, p.2 = x := by
  induction l with
  | nil => intro L x h; exact .inl h
  | cons p l ih =>
    intro L x h
    rw [puts_cons] at h
    rcases ih h with h | ⟨q, hq, rfl⟩
    · rcases List.mem_or_eq_of_mem_set h with h | rfl
      · exact .inl h
      · exact .inr ⟨p, List.mem_cons_self .., rfl⟩
    · exact .inr ⟨q, List.mem_cons_of_mem _ hq, rfl⟩
theorem puts_indep {l : List (Nat × α)} : ∀ {L L' : List α} {s : Nat}, L.length = L'.length → (∃ p ∈ l, p.1 = s) → (puts L l)[s]? = (puts L' l)[s]? := by
  induction l with
  | nil => rintro L L' s _ ⟨p, hp, _⟩; cases hp
  | cons p l ih =>
    intro L L' s hl h
    rw [puts_cons, puts_cons]
    by_cases hs : ∃ q ∈ l, q.1 = s
    · exact ih (by simp [hl]) hs
    · have hn : ∀ q ∈ l, q.1 ≠ s := fun q hq e => hs ⟨q, hq, e⟩
      rw [puts_get hn, puts_get hn]
      obtain ⟨q, hq, e⟩ := h
      rcases List.mem_cons.1 hq with rfl | hq
      · subst e
        rw [List.getElem?_set, List.getElem?_set, if_pos rfl, if_pos rfl, hl]
      · exact absurd e (hn q hq)
theorem puts_twice {L : List α} {sub l : List (Nat × α)} (h : ∀ p ∈ sub, p ∈ l) : puts (puts L sub) l = puts L l := by
  apply List.ext_getElem?
  intro s
  by_cases hs : ∃ q ∈ l, q.1 = s
  · exact puts_indep (length_puts _ _) hs
  · have hn : ∀ q ∈ l, q.1 ≠ s := fun q hq e => hs ⟨q, hq, e⟩
    rw [puts_get hn, puts_get hn, puts_get fun q hq => hn q (h q hq)]
theorem puts_one (L : List α) (s : Nat) (x : α) : puts L [(s, x)] = L.set s x := rfl

theorem puts_const {s : Nat} {x : α} : ∀ {sub : List (Nat × α)} {L : List α}, (∀ p ∈ sub, p = (s, x)) → sub = [] ∧ puts L sub = L ∨ puts L sub = L.set s x
  | [], L, _ => .inl ⟨rfl, rfl⟩
  | p :: r, L, h => by
    right
    rw [puts_cons, h p (List.mem_cons_self ..)]
    rcases puts_const (sub := r) (L := L.set s x) fun q hq => h q (List.mem_cons_of_mem _ hq) with ⟨_, h1⟩ | h1
    · exact h1
    · rw [h1, List.set_set]

/-- What writes come to. -/
theorem writes_cases (l : List (Nat × α)) : ∀ k : Dk α, k.dead = false →
    ((k.writes l).1 = 0 ∧ (k.writes l).2.safe = puts k.now l ∧ (k.writes l).2.un = [] ∧ (k.writes l).2.dead = false ∧ (k.writes l).2.cut = k.cut) ∨
    (k.cut = true ∧ (k.writes l).1 = 6 ∧ (k.writes l).2.dead = true ∧ (k.writes l).2.safe = k.safe ∧ ∃ m, (k.writes l).2.un = k.un ++ l.take m) := by
  induction l with
  | nil =>
    intro k hd
    unfold Dk.writes
    cases ho : k.off
    · left
      simp [Dk.flush, ho, Dk.op, puts_nil, hd]
    · right
      have hc : k.cut = true := by
        simp [Dk.off, hd] at ho; exact ho.1
      simp [Dk.flush, ho, Dk.op, hc]
  | cons p l ih =>
    intro k hd
    unfold Dk.writes
    cases ho : k.off
    · have hw : (k.wrote p.1 p.2).dead = false := by simp [Dk.wrote, Dk.op, ho, hd]
      have hcut : (k.wrote p.1 p.2).cut = k.cut := by simp [Dk.wrote, Dk.op, ho]
      have hnow : (k.wrote p.1 p.2).now = puts k.now [p] := by
        rw [Dk.now, Dk.wrote_safe, Dk.wrote_un, puts_append]; rfl
      rcases ih (k.wrote p.1 p.2) hw with ⟨h1, h2, h3, h4, h5⟩ | ⟨h1, h2, h3, h4, m, h5⟩
      · left
        simp only [Bool.false_eq_true, if_false]
        refine ⟨h1, ?_, h3, h4, h5.trans hcut⟩
        rw [h2, hnow, puts_cons, puts_nil, puts_cons]
      · right
        simp only [Bool.false_eq_true, if_false]
        refine ⟨hcut ▸ h1, h2, h3, h4.trans (Dk.wrote_safe _ _ _), m + 1, ?_⟩
        rw [h5, Dk.wrote_un, List.take_succ_cons, List.append_assoc]; rfl
    · right
      have hc : k.cut = true := by
        simp [Dk.off, hd] at ho; exact ho.1
      simp only [if_true]
      refine ⟨hc, trivial, ?_, Dk.op_safe k, 0, ?_⟩
      · simp [Dk.op, ho]
      · simp [Dk.op_un]
theorem writes_dead (p : Nat × α) (l : List (Nat × α)) (k : Dk α) (hd : k.dead = true) : k.writes (p :: l) = (6, k) := by
  have ho : k.off = true := by simp [Dk.off, hd]
  unfold Dk.writes
  rw [if_pos ho, Dk.op, if_pos ho]
  cases k
  simp only at hd
  subst hd
  rfl
theorem crash_safe (k : Dk α) (t : Nat) : ∃ sub, (∀ p ∈ sub, p ∈ k.un) ∧ (k.crash t).safe = puts k.safe sub ∧ (k.crash t).un = [] ∧ (k.crash t).dead = false ∧ (k.crash t).cut = false :=
  ⟨kept t 0 k.un, kept_mem, rfl, rfl, rfl, rfl⟩
theorem now_of_un {k : Dk α} (h : k.un = []) : k.now = k.safe := by rw [Dk.now, h, puts_nil]
end


/-- Where the journal lies: n sectors from F on, of T. -/
structure Plc (F n T : Nat) : Prop where
  lo : 1 ≤ n
  hi : F + n ≤ T
  small : T ≤ 65535
/-- A sector that is not the journal's. -/
def Out (F n i : Nat) : Prop := i < F ∨ F + n ≤ i
/-- Patches that may be: of sectors that are not the journal's. -/
def Vals (F n T : Nat) (l : List (Nat × Sx)) : Prop := ∀ p ∈ l, Out F n p.1 ∧ p.1 < T
/-- What there is beside the journal. -/
def vw (F n : Nat) (S : List Sx) (i : Nat) : Option Sx := if i < F ∨ F + n ≤ i then S[i]? else none
theorem vw_far {F n : Nat} {S S' : List Sx} (h : ∀ i, Out F n i → S'[i]? = S[i]?) : vw F n S' = vw F n S := by
  funext i
  unfold vw
  split
  · exact h i (by assumption)
  · rfl
theorem vw_out {F n i : Nat} {S : List Sx} (h : Out F n i) : vw F n S i = S[i]? := if_pos h
theorem vw_set {F n : Nat} (hn : 1 ≤ n) (S : List Sx) (x : Sx) : vw F n (S.set F x) = vw F n S := vw_far fun i hi => by
  rw [List.getElem?_set, if_neg (by rintro rfl; rcases hi with hi | hi <;> omega)]

/-- A disk as it lies, with a journal's head, and the patches that are to be replayed. -/
structure Img (F n T : Nat) (S : List Sx) (q : Nat) (l : List (Nat × Sx)) : Prop where
  len : S.length = T
  head : ∃ c, S[F]? = some c ∧ IsHead c q l.length
  loads : Loads S F l
  val : Vals F n T l
  room : (stored l).length + 1 ≤ n

theorem isHead_headS (q m : Nat) (hq : q < 18446744073709551616) (hm : m < 65536) : IsHead (headS q m) q m := .inl ⟨rfl, hq, hm⟩
theorem loads_far {F n : Nat} {S S' : List Sx} {l : List (Nat × Sx)} (h : Loads S F l) (hr : (stored l).length + 1 ≤ n) (hs : ∀ i, F + 1 ≤ i → i < F + n → S'[i]? = S[i]?) : Loads S' F l := fun i p hp => by
  obtain ⟨cl, cb, h1, h2, h3⟩ := h i p hp
  obtain ⟨g1, g2⟩ := stored_at l i p hp
  have l1 := (List.getElem?_eq_some_iff.1 g1).1
  have l2 := (List.getElem?_eq_some_iff.1 g2).1
  exact ⟨cl, cb, (hs _ (by omega) (by omega)).trans h1, (hs _ (by omega) (by omega)).trans h2, h3⟩
theorem loads_nil (F : Nat) (S : List Sx) : Loads S F [] := fun i p h => by simp at h
theorem puts_in {F n T : Nat} {S : List Sx} {sub : List (Nat × Sx)} (h : Vals F n T sub) {i : Nat} (hi : F ≤ i) (h2 : i < F + n) : (puts S sub)[i]? = S[i]? := puts_get fun p hp => by
  have := (h p hp).1
  intro e
  rcases this with h | h <;> omega

theorem Img.subs {F n T : Nat} (hP : Plc F n T) {S : List Sx} {q : Nat} {l sub : List (Nat × Sx)} (h : Img F n T S q l) (hs : ∀ p ∈ sub, p ∈ l) : Img F n T (puts S sub) q l ∧ puts (puts S sub) l = puts S l := by
  have hv : Vals F n T sub := fun p hp => h.val p (hs p hp)
  have hlo := hP.lo
  refine ⟨⟨by rw [length_puts, h.len], ?_, loads_far h.loads h.room fun i hi h2 => puts_in hv (by omega) h2, h.val, h.room⟩, puts_twice hs⟩
  obtain ⟨c, h1, h2⟩ := h.head
  exact ⟨c, (puts_in hv (Nat.le_refl _) (by omega)).trans h1, h2⟩
/-- Another head, behind which nothing is to be replayed. -/
theorem Img.rest {F n T : Nat} (hP : Plc F n T) {S : List Sx} (hl : S.length = T) {q : Nat} (hq : q < 18446744073709551616) : Img F n T (S.set F (headS q 0)) q [] :=
  ⟨by rw [List.length_set, hl], ⟨headS q 0, by rw [List.getElem?_set, if_pos rfl, if_pos (by have := hP.lo; have := hP.hi; omega)], isHead_headS q 0 hq (by omega)⟩, loads_nil _ _, fun p hp => (by cases hp), by rw [length_stored]; have := hP.lo; simpa using this⟩

/-- When it is opened, there will be V. -/
def Safe (F n T N : Nat) (S : List Sx) (V : Nat → Option Sx) : Prop := ∃ q l, Img F n T S q l ∧ q ≤ N ∧ vw F n (puts S l) = V

/-- At rest. -/
structure Rest (F n T : Nat) (k : Dk Sx) (q : Nat) : Prop where
  img : Img F n T k.safe q []
  un : k.un = []
  dead : k.dead = false
/-- The power is off; behind a crash there will be what P says. -/
structure Fell (F n T N : Nat) (k : Dk Sx) (P : (Nat → Option Sx) → Prop) : Prop where
  dead : k.dead = true
  un : k.un.length ≤ n
  len : k.safe.length = T
  safe : ∀ t, ∃ V, P V ∧ Safe F n T N (k.crash t).safe V

theorem room_len {n : Nat} {l : List (Nat × Sx)} (h : (stored l).length + 1 ≤ n) : l.length + 1 ≤ n := by
  rw [length_stored] at h
  omega
theorem finish_spec {F n T : Nat} (hP : Plc F n T) {k : Dk Sx} {q : Nat} {l : List (Nat × Sx)} (h : Img F n T k.safe q l) (hu : k.un = []) (hd : k.dead = false) (hq : q < 18446744073709551616) :
    ((k.finish F q l).1 = 0 ∧ Rest F n T (k.finish F q l).2 q ∧ (k.finish F q l).2.safe = (puts k.safe l).set F (headS q 0) ∧ (k.finish F q l).2.cut = k.cut) ∨
    (k.cut = true ∧ (k.finish F q l).1 = 6 ∧ Fell F n T q (k.finish F q l).2 (fun V => V = vw F n (puts k.safe l))) := by
  have hlo := hP.lo
  have hrl := room_len h.room
  unfold Dk.finish
  rcases writes_cases l k hd with ⟨h1, h2, h3, h4, h5⟩ | ⟨h1, h2, h3, h4, m, h5⟩
  · rw [if_pos h1]
    rw [now_of_un hu] at h2
    have hI := (h.subs hP fun p hp => hp).1
    rw [← h2] at hI
    rcases writes_cases [(F, headS q 0)] (k.writes l).2 h4 with ⟨g1, g2, g3, g4, g5⟩ | ⟨g1, g2, g3, g4, m, g5⟩
    · left
      rw [now_of_un h3, h2, puts_one] at g2
      refine ⟨g1, ⟨?_, g3, g4⟩, g2, g5.trans h5⟩
      rw [g2]
      exact Img.rest hP (by rw [length_puts, h.len]) hq
    · right
      refine ⟨by rw [← h5]; exact g1, g2, g3, ?_, by rw [g4, h2, length_puts, h.len], fun t => ?_⟩
      · rw [g5, h3, List.nil_append, List.length_take]; simp only [List.length_singleton]; omega
      · obtain ⟨sub, c1, c2, _, _, _⟩ := crash_safe ((k.writes l).2.writes [(F, headS q 0)]).2 t
        rw [g5, h3, List.nil_append] at c1
        rw [g4] at c2
        refine ⟨_, rfl, ?_⟩
        rw [c2]
        have hall : ∀ p ∈ sub, p = (F, headS q 0) := fun p hp => by
          have := List.mem_of_mem_take (c1 p hp)
          simpa using this
        rcases puts_const (L := (k.writes l).2.safe) hall with ⟨_, hc⟩ | hc
        · rw [hc]
          exact ⟨q, l, hI, Nat.le_refl _, by rw [h2, puts_twice fun p hp => hp]⟩
        · rw [hc]
          exact ⟨q, [], Img.rest hP hI.len hq, Nat.le_refl _, by rw [puts_nil, vw_set hlo, h2]⟩
  · right
    rw [if_neg (by rw [h2]; decide)]
    refine ⟨h1, h2, h3, ?_, by rw [h4, h.len], fun t => ?_⟩
    · rw [h5, hu, List.nil_append, List.length_take]; omega
    · obtain ⟨sub, c1, c2, _, _, _⟩ := crash_safe (k.writes l).2 t
      rw [h5, hu, List.nil_append] at c1
      rw [h4] at c2
      obtain ⟨i1, i2⟩ := h.subs hP fun p hp => List.mem_of_mem_take (c1 p hp)
      exact ⟨_, rfl, q, l, by rw [c2]; exact i1, Nat.le_refl _, by rw [c2, i2]⟩

theorem Safe.up {F n T N M : Nat} {S : List Sx} {V : Nat → Option Sx} (h : Safe F n T N S V) (hM : N ≤ M) : Safe F n T M S V := by
  obtain ⟨q, l, h1, h2, h3⟩ := h
  exact ⟨q, l, h1, by omega, h3⟩
theorem Fell.up {F n T N M : Nat} {k : Dk Sx} {P Q : (Nat → Option Sx) → Prop} (h : Fell F n T N k P) (hM : N ≤ M) (hPQ : ∀ V, P V → Q V) : Fell F n T M k Q :=
  ⟨h.dead, h.un, h.len, fun t => by
    obtain ⟨V, h1, h2⟩ := h.safe t
    exact ⟨V, hPQ V h1, h2.up hM⟩⟩

/-- What is stored is loaded. -/
theorem loads_stored {F n T : Nat} (hP : Plc F n T) {S : List Sx} {l : List (Nat × Sx)} (hl : S.length = T) (hr : (stored l).length + 1 ≤ n) (hv : Vals F n T l) : Loads (puts S (placed (F + 1) (stored l))) F l := fun i p hp => by
  obtain ⟨h1, h2⟩ := stored_at l i p hp
  have hhi := hP.hi
  have a1 := puts_placed (stored l) (F + 1) S (by omega) _ _ h1
  have a2 := puts_placed (stored l) (F + 1) S (by omega) _ _ h2
  have hg : (grp l (i / 15))[i % 15]? = some p := by
    rw [grp, List.getElem?_take, if_pos (by omega), List.getElem?_drop, show 15 * (i / 15) + i % 15 = i by omega]; exact hp
  have hg15 : (grp l (i / 15)).length ≤ 15 := by rw [length_grp]; omega
  obtain ⟨w1, w2⟩ := words_get _ _ _ hg
  have hpT := (hv p (List.mem_of_getElem? hp)).2
  have hsm := hP.small
  exact ⟨_, _, a1, by rw [show F + 1 + i / 15 * 16 + 1 + i % 15 = F + 1 + (i / 15 * 16 + 1 + i % 15) by omega]; exact a2, listB_word _ hg15 _ _ w1 (by omega), listB_word _ hg15 _ _ w2 p.2.ht, rfl⟩
theorem placed_in {F n : Nat} {l : List (Nat × Sx)} (hr : (stored l).length + 1 ≤ n) : ∀ p ∈ placed (F + 1) (stored l), F + 1 ≤ p.1 ∧ p.1 < F + n := fun _p hp => by
  obtain ⟨h1, h2, _⟩ := placed_mem hp
  omega

/-- What a commit comes to. -/
def after (F : Nat) (S : List Sx) (q : Nat) (l : List (Nat × Sx)) : List Sx := (puts ((puts S (placed (F + 1) (stored l))).set F (headS (q + 1) l.length)) l).set F (headS (q + 1) 0)
theorem commit_spec {F n T : Nat} (hP : Plc F n T) {k : Dk Sx} {q : Nat} {l : List (Nat × Sx)} (h : Rest F n T k q) (_hl : l ≠ []) (hv : Vals F n T l) (hr : (stored l).length + 1 ≤ n) (hq : q + 1 < 18446744073709551616) :
    ((k.commit F q l).1 = 0 ∧ Rest F n T (k.commit F q l).2 (q + 1) ∧ (k.commit F q l).2.safe = after F k.safe q l ∧ (k.commit F q l).2.cut = k.cut) ∨
    (k.cut = true ∧ (k.commit F q l).1 = 6 ∧ Fell F n T (q + 1) (k.commit F q l).2 (fun V => V = vw F n k.safe ∨ V = vw F n (puts k.safe l))) := by
  have hlo := hP.lo
  have hhi := hP.hi
  have hsm := hP.small
  have hrl := room_len hr
  obtain ⟨⟨hlen, ⟨ch, hc1, hc2⟩, _, _, _⟩, hu, hd⟩ := h
  -- an image in which some of the stored sectors are new
  have hsub : ∀ sub, (∀ p ∈ sub, p ∈ placed (F + 1) (stored l)) → Img F n T (puts k.safe sub) q [] ∧ vw F n (puts k.safe sub) = vw F n k.safe := fun sub hs => by
    have h13 : ∀ p ∈ sub, F + 1 ≤ p.1 ∧ p.1 < F + n := fun p hp => placed_in hr p (hs p hp)
    exact ⟨⟨by rw [length_puts, hlen], ⟨ch, (puts_get fun p hp => by have := h13 p hp; omega).trans hc1, hc2⟩, loads_nil _ _, fun p hp => (by cases hp), by rw [length_stored]; simpa using hlo⟩, vw_far fun i hi => puts_get fun p hp => by have := h13 p hp; rcases hi with hi | hi <;> omega⟩
  unfold Dk.commit
  rcases writes_cases (placed (F + 1) (stored l)) k hd with ⟨h1, h2, h3, h4, h5⟩ | ⟨h1, h2, h3, h4, m, h5⟩
  · rw [if_pos h1]
    rw [now_of_un hu] at h2
    obtain ⟨i1, i2⟩ := hsub _ fun p hp => hp
    have hld := loads_stored hP hlen hr hv
    rw [← h2] at i1 i2 hld
    obtain ⟨k1, hk1⟩ : ∃ k1, k1 = (k.writes (placed (F + 1) (stored l))).2 := ⟨_, rfl⟩
    rw [← hk1] at h2 h3 h4 h5 i1 i2 hld ⊢
    have hI2 : Img F n T (k1.safe.set F (headS (q + 1) l.length)) (q + 1) l := ⟨by rw [List.length_set, i1.len], ⟨_, by rw [List.getElem?_set, if_pos rfl, if_pos (by rw [i1.len]; omega)], isHead_headS _ _ hq (by omega)⟩, loads_far hld hr fun i hi _ => by rw [List.getElem?_set, if_neg (by omega)], hv, hr⟩
    have hV : vw F n (puts (k1.safe.set F (headS (q + 1) l.length)) l) = vw F n (puts k.safe l) := by
      refine vw_far fun i hi => ?_
      have hii : (k1.safe.set F (headS (q + 1) l.length))[i]? = k.safe[i]? := by
        rw [List.getElem?_set, if_neg (by rcases hi with hi | hi <;> omega), h2, puts_get fun p hp => by have := placed_in hr p hp; rcases hi with hi | hi <;> omega]
      by_cases hs : ∃ p ∈ l, p.1 = i
      · exact puts_indep (by rw [List.length_set, i1.len, hlen]) hs
      · have hn : ∀ p ∈ l, p.1 ≠ i := fun p hp e => hs ⟨p, hp, e⟩
        rw [puts_get hn, puts_get hn, hii]
    unfold Dk.tell
    rcases writes_cases [(F, headS (q + 1) l.length)] k1 h4 with ⟨g1, g2, g3, g4, g5⟩ | ⟨g1, g2, g3, g4, m, g5⟩
    · rw [if_pos g1]
      rw [now_of_un h3, puts_one] at g2
      rw [← g2] at hI2 hV
      rcases finish_spec hP hI2 g3 g4 hq with ⟨f1, f2, f3, f4⟩ | ⟨f0, f1, f2⟩
      · left
        refine ⟨f1, f2, ?_, f4.trans (g5.trans h5)⟩
        rw [f3, g2, h2]; rfl
      · right
        refine ⟨by rw [← h5, ← g5]; exact f0, f1, f2.up (Nat.le_refl _) fun V hV' => ?_⟩
        right
        rw [hV', hV]
    · right
      rw [if_neg (by rw [g2]; decide)]
      refine ⟨by rw [← h5]; exact g1, g2, g3, ?_, by rw [g4, i1.len], fun t => ?_⟩
      · rw [g5, h3, List.nil_append, List.length_take]; simp only [List.length_singleton]; omega
      · obtain ⟨sub, c1, c2, _, _, _⟩ := crash_safe (k1.writes [(F, headS (q + 1) l.length)]).2 t
        rw [g5, h3, List.nil_append] at c1
        rw [g4] at c2
        rw [c2]
        have hall : ∀ p ∈ sub, p = (F, headS (q + 1) l.length) := fun p hp => by
          have := List.mem_of_mem_take (c1 p hp)
          simpa using this
        rcases puts_const (L := k1.safe) hall with ⟨_, hc⟩ | hc
        · rw [hc]
          exact ⟨_, .inl rfl, q, [], i1, by omega, by rw [puts_nil, i2]⟩
        · rw [hc]
          exact ⟨_, .inr rfl, q + 1, l, hI2, Nat.le_refl _, hV⟩
  · right
    rw [if_neg (by rw [h2]; decide)]
    refine ⟨h1, h2, h3, ?_, by rw [h4, hlen], fun t => ?_⟩
    · rw [h5, hu, List.nil_append, List.length_take, length_placed]; omega
    · obtain ⟨sub, c1, c2, _, _, _⟩ := crash_safe (k.writes (placed (F + 1) (stored l))).2 t
      rw [h5, hu, List.nil_append] at c1
      rw [h4] at c2
      obtain ⟨i1, i2⟩ := hsub sub fun p hp => List.mem_of_mem_take (c1 p hp)
      exact ⟨_, .inl rfl, q, [], by rw [c2]; exact i1, by omega, by rw [c2, puts_nil, i2]⟩
theorem vw_after {F n T : Nat} (hP : Plc F n T) (S : List Sx) (q : Nat) {l : List (Nat × Sx)} (hr : (stored l).length + 1 ≤ n) : vw F n (after F S q l) = vw F n (puts S l) := by
  have hlo := hP.lo
  unfold after
  rw [vw_set hlo]
  refine vw_far fun i hi => ?_
  by_cases hs : ∃ p ∈ l, p.1 = i
  · exact puts_indep (by rw [List.length_set, length_puts]) hs
  · have hn : ∀ p ∈ l, p.1 ≠ i := fun p hp e => hs ⟨p, hp, e⟩
    rw [puts_get hn, puts_get hn, List.getElem?_set, if_neg (by rcases hi with hi | hi <;> omega), puts_get fun p hp => by have := placed_in hr p hp; rcases hi with hi | hi <;> omega]

/-- An opening. -/
theorem opened_spec {F n T : Nat} (hP : Plc F n T) {k : Dk Sx} {q : Nat} {l : List (Nat × Sx)} (h : Img F n T k.safe q l) (hu : k.un = []) (hd : k.dead = false) (hq : q < 18446744073709551616) :
    ((k.opened F q l).1 = 0 ∧ Rest F n T (k.opened F q l).2 q ∧ vw F n (k.opened F q l).2.safe = vw F n (puts k.safe l) ∧ (k.opened F q l).2.cut = k.cut) ∨
    (k.cut = true ∧ (k.opened F q l).1 = 6 ∧ Fell F n T q (k.opened F q l).2 (fun V => V = vw F n (puts k.safe l))) := by
  unfold Dk.opened
  by_cases hl : l = []
  · subst hl
    rw [if_pos rfl]
    exact .inl ⟨rfl, ⟨h, hu, hd⟩, by rw [puts_nil], rfl⟩
  · rw [if_neg hl]
    rcases finish_spec hP h hu hd hq with ⟨f1, f2, f3, f4⟩ | f
    · left
      exact ⟨f1, f2, by rw [f3, vw_set hP.lo], f4⟩
    · exact .inr f
/-- Behind a crash it can be opened. -/
theorem Rest.crash {F n T : Nat} {k : Dk Sx} {q : Nat} (h : Rest F n T k q) (t : Nat) : (k.crash t).safe = k.safe := by
  obtain ⟨sub, c1, c2, _⟩ := crash_safe k t
  rw [h.un] at c1
  cases sub with
  | nil => exact c2
  | cons p r => exact absurd (c1 p (List.mem_cons_self ..)) (by simp)
theorem Rest.safe {F n T : Nat} {k : Dk Sx} {q N : Nat} (h : Rest F n T k q) (hN : q ≤ N) (t : Nat) : Safe F n T N (k.crash t).safe (vw F n k.safe) :=
  ⟨q, [], by rw [h.crash t]; exact h.img, hN, by rw [puts_nil, h.crash t]⟩
end Go.Proofs.YtaflpigpeckhoaaGreat.Jrn
