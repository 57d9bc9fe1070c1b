/-
  All sectors of a part of a disk are read.
-/
import Derived.Test.YtcjkbmmjpkghlaaGreatQVolA
import Derived.WalkSpells
import Derived.Test.YtcjkbmmjpkghlaaGreatQMetaX1
import Derived.Test.YtcjkbmmjpkghlaaGreatQBits
import Derived.Deep.QuietTactic
namespace Go.Proofs.YtcjkbmmjpkghlaaGreat.Vol
open Go.RowKit Keep Meta

theorem make_secs (n : Nat) (h : n ≤ 65536) (u : World) : (Instr.makeSlice 100 (.int .i64 (n : Int)) (.int .i64 (n : Int))).run Tryz.prog u =
    .ok (.slice (some ⟨u.heap.size, 0, none⟩) n n) (u.alloc (.cells (Array.replicate n (Value.slice none 0 0)) 37)) := by
  obtain ⟨i0, hi, hz0, hz1, hz2⟩ := info_parts info_bytes
  have hr := run_make (P := Tryz.prog) u 100 37 i0 (.slice none 0 0) Tryz.underlying100 hi hz0 .i64 .i64 (n : Int) (n : Int) (by omega) (Int.le_refl _) (by rw [hz2]; omega) (by omega)
  have e : (madeCells (Value.slice none 0 0).cells (n * i0.size)) = Array.replicate n (Value.slice none 0 0) := by
    apply Array.ext'
    rw [hz1, Nat.mul_one]
    have := toList_madeCells_one (.slice none 0 0) n
    simp at this ⊢
    exact this
  simp only [Int.toNat_natCast, e] at hr
  exact hr
set_option maxRecDepth 100000 in
set_option maxHeartbeats 6400000 in
theorem readAll_ok {B : Nat} {w : World} {S : Nat → Prop} {b : Nat} {k : Dk Sx} (hD : DO B w S b k) (f : Int) (F n : Nat) (hf : f = (F : Int)) (hF : F ≤ 4096) (hn100 : n ≤ 100) (l : List (List UInt8)) (hl : l.length = n) (h64 : ∀ y ∈ l, y.length = 64) (hk : ∀ (a : Nat) (y : List UInt8), l[a]? = some y → ∃ c, k.now[F + a]? = some c ∧ c.b = y) (hd : k.dead = false) :
    Calls Tryz.prog 62 #[.pointer (some ⟨b, 0, none⟩), .int .i64 f, .int .i64 (n : Int)] w fun e w' => ∃ A c L, e = .returned (.slice A n c) ∧ SRow w' w.heap.size (.slice A n c) L l ∧ n ≤ c ∧ Below w.heap.size w w' := by
  subst hf
  have HD := Lib.hid hD
  have HL := Lib.hid hl
  have H64 := Lib.hid h64
  have HRD : Hid (∀ (u : World) (a : Nat) (y : List UInt8), DO B u S b k → l[a]? = some y → Calls Tryz.prog 44 #[.pointer (some ⟨b, 0, none⟩), .int .i64 ((F : Int) + (a : Int))] u fun e w' => e = .returned (.tuple #[.slice (some ⟨u.heap.size, 0, none⟩) 64 64, .int .i64 0]) ∧ Bk w' u.heap.size 131 (bytesV y) ∧ Below u.heap.size u w') := Lib.hid (fun u a y hu hy => by
    obtain ⟨c, h1, h2⟩ := hk a y hy
    have := dread_any hu h1 hd
    rw [h2, show ((F + a : Nat) : Int) = (F : Int) + (a : Int) by omega] at this
    exact this)
  have hmk := make_secs n (by omega)
  clear hD hl h64 hk hd
  go_enter Tryz.func62, Tryz.ntmps62
  go_wp2
  have hal := al_below w (.cells (Array.replicate n (Value.slice none 0 0)) 37)
  have HD0 := Lib.hid (HD.out.below hal)
  have HROW : Hid ((w.alloc (.cells (Array.replicate n (Value.slice none 0 0)) 37)).ownsRow w.heap.size 37 1 (.slice (some ⟨w.heap.size, 0, none⟩) n n) n (partS n [] [])) := Lib.hid (by
    have := (Bk.new w 37 (List.replicate n (Value.slice none 0 0))).own (base := w.heap.size) n (by simp) (Nat.le_refl _) (by unfold maxLen; omega)
    rw [show Array.replicate n (Value.slice none 0 0) = (List.replicate n (Value.slice none 0 0)).toArray by simp]
    simpa only [partS, secsV, List.zip_nil_right, List.map_nil, List.nil_append, List.length_nil, Nat.sub_zero] using this)
  have HB := Lib.hid hal
  clear hal hmk
  generalize w.alloc (.cells (Array.replicate n (Value.slice none 0 0)) 37) = W at *
  go_loopw [8, 13] (fun _ kc wr => ∃ (a : Nat) (L : List Sc), kc = .int .i64 (a : Int) ∧ a ≤ n ∧ Hid (Below w.heap.size w wr) ∧ Hid (DO B wr S b k) ∧ Hid (L.length = a) ∧ Hid (wr.ownsRow w.heap.size 37 1 (.slice (some ⟨w.heap.size, 0, none⟩) n n) n (partS n L (l.take a))) ∧ Hid (∀ (q : Nat) (s : Sc) (y : List UInt8), L[q]? = some s → l[q]? = some y → ∃ g, s.A = some ⟨g, 0, none⟩ ∧ y.length ≤ s.c ∧ s.c ≤ maxLen ∧ Bk wr g 131 (bytesV y))) (fun _ kc _ => n - (intOf kc).toNat)
  case atStart => exact ⟨0, [], rfl, Nat.zero_le _, HB, HD0, Lib.hid rfl, by rw [List.take_zero]; exact HROW, Lib.hid (fun q s y h => by simp at h)⟩
  case round =>
    clear HROW HD0 HB
    obtain ⟨a, L, rfl, ha, HB, HDR, HLL, HROW, HEA⟩ := hrel
    have HTL : Hid ((l.take a).length = a) := Lib.hid (by rw [List.length_take, HL.out]; omega)
    by_cases hlt : a < n
    · obtain ⟨y, hy⟩ : ∃ y, l[a]? = some y := ⟨_, List.getElem?_eq_getElem (by rw [HL.out]; exact hlt)⟩
      have hy64 := H64.out y (List.mem_of_getElem? hy)
      have HREAD := Lib.hid (HRD.out wr a y HDR.out hy)
      have HTA : Hid (l.take (a + 1) = l.take a ++ [y]) := Lib.hid (by rw [List.take_add_one, hy]; rfl)
      have HY := Lib.hid hy
      have HY64 := Lib.hid hy64
      have hlti : (a : Int) < (n : Int) := by omega
      have hi0 : (0 : Int) ≤ (a : Int) := by omega
      have hiw : IntKind.i64.wrap ((a : Int) + 1) = ((a + 1 : Nat) : Int) := by rw [IntKind.wrap_i64]; omega
      have hfw : IntKind.i64.wrap ((F : Int) + (a : Int)) = (F : Int) + (a : Int) := by rw [IntKind.wrap_i64]; omega
      clear hy hy64
      have hta := HTL.out
      have HCL : Hid (∀ u, Below wr.heap.size wr u → (∃ z, u.cell? ⟨w.heap.size, a, none⟩ = some z) ∧ u.frozen? ⟨w.heap.size, a, none⟩ = false) := Lib.hid (fun u hu => own_one (own_below HROW.out hu) a (by omega))
      clear hta
      go_wp2_with (go_at_call 44; (with_reducible refine HREAD.out.mono ?_); rintro e w1 ⟨he, hbk, hb⟩; obtain rfl := he; have HB1 := Lib.hid hb; have HBK := Lib.hid hbk; obtain ⟨⟨z, hz⟩, hf⟩ := HCL.out _ hb; clear hbk hb)
      have hrow1 := own_below HROW.out HB1.out
      obtain ⟨hst, hgr⟩ := hrow1.stored a (.slice (some ⟨wr.heap.size, 0, none⟩) 64 64)
      have hpart : (partS n L (l.take a)).set a (.slice (some ⟨wr.heap.size, 0, none⟩) 64 64) = partS n (L ++ [⟨some ⟨wr.heap.size, 0, none⟩, 64⟩]) (l.take (a + 1)) := by
        have := partS_set (n := n) (L := L) (l := l.take a) (by rw [HLL.out, HTL.out]) (by rw [HTL.out]; exact hlt) ⟨some ⟨wr.heap.size, 0, none⟩, 64⟩ y
        rw [HTL.out, HY64.out] at this
        rw [HTA.out]
        exact this
      rw [hpart] at hst
      have HROW2 := Lib.hid hst
      have HBR2 := Lib.hid ((HB.out.trans (HB1.out.mono HB.out.size)).setCell (p := ⟨w.heap.size, a, none⟩) (Nat.le_refl _) (.slice (some ⟨wr.heap.size, 0, none⟩) 64 64))
      have HDR2 : Hid (DO B (w1.setCell ⟨w.heap.size, a, none⟩ (.slice (some ⟨wr.heap.size, 0, none⟩) 64 64)) S b k) := Lib.hid (by
        have h1 := HDR.out.below HB1.out
        refine ⟨h1.disk.keep fun q hq => hgr.block q (h1.disk.lt hq) (fun e => ?_), h1.lo⟩
        obtain ⟨c', e', k1, k2⟩ := typed h1.disk hq
        injection e with e
        rcases hrow1.2 with ⟨hv, _⟩ | ⟨g', cap, cur, hv, _, hg, _⟩
        · cases hv
        · injection hv with hv _ _
          injection hv with hv
          injection hv with hv
          rw [e, hv, hg] at k1
          cases k1
          exact absurd k2 (by decide))
      have HLL2 : Hid ((L ++ [(⟨some ⟨wr.heap.size, 0, none⟩, 64⟩ : Sc)]).length = a + 1) := Lib.hid (by rw [List.length_append, HLL.out]; rfl)
      have HEA2 : Hid (∀ (q : Nat) (s : Sc) (y : List UInt8), (L ++ [(⟨some ⟨wr.heap.size, 0, none⟩, 64⟩ : Sc)])[q]? = some s → l[q]? = some y → ∃ g, s.A = some ⟨g, 0, none⟩ ∧ y.length ≤ s.c ∧ s.c ≤ maxLen ∧ Bk (w1.setCell ⟨w.heap.size, a, none⟩ (.slice (some ⟨wr.heap.size, 0, none⟩) 64 64)) g 131 (bytesV y)) := Lib.hid (fun q s y' h1 h2 => by
        rcases Nat.lt_or_ge q L.length with hq | hq
        · rw [List.getElem?_append_left hq] at h1
          obtain ⟨g', e1, e2, e3, e4⟩ := HEA.out q s y' h1 h2
          have e5 := e4.below HB1.out e4.lt
          exact ⟨g', e1, e2, e3, e5.grown hgr (bk_ne e5 hrow1 (by decide))⟩
        · rw [List.getElem?_append_right hq] at h1
          have hz : q = a := by
            have := (List.getElem?_eq_some_iff.1 h1).1
            simp at this
            have := HLL.out
            omega
          subst hz
          rw [HLL.out, Nat.sub_self] at h1
          simp only [List.getElem?_cons_zero, Option.some.injEq] at h1
          subst h1
          rw [HY.out] at h2
          injection h2 with h2
          subst h2
          exact ⟨_, rfl, by rw [HY64.out]; exact Nat.le_refl _, by show 64 ≤ maxLen; decide, HBK.out.grown hgr (bk_ne HBK.out hrow1 (by decide))⟩)
      clear hrow1 hst hgr hpart
      go_roundw
      case rel => exact ⟨a + 1, _, by first | rfl | (congr 1), hlt, HBR2, HDR2, HLL2, HROW2, HEA2⟩
      case measure => simp [intOf]; omega
    · obtain rfl : n = a := by omega
      have HS : Hid (SRow wr w.heap.size (.slice (some ⟨w.heap.size, 0, none⟩) n n) L l) := Lib.hid (by
        have ht : l.take n = l := List.take_of_length_le (by rw [HL.out]; exact Nat.le_refl _)
        have hr := HROW.out
        rw [ht] at hr
        refine ⟨HLL.out.trans HL.out.symm, ?_, HEA.out⟩
        rw [HL.out]
        simpa [partS, HL.out] using hr)
      go_wp2_with fail
      go_ret
      exact ⟨_, _, L, rfl, HS.out, Nat.le_refl _, HB.out⟩
end Go.Proofs.YtcjkbmmjpkghlaaGreat.Vol

/-
  Whether an inode is free, whether a group has a block in use, and what is known that is consistent.
-/
namespace Go.Proofs.YtcjkbmmjpkghlaaGreat.Vol
open Go.RowKit Keep Meta

theorem fourteen_cells {w : World} {g : Nat} {e : TypeId} {a0 a1 a2 a3 a4 a5 a6 a7 a8 a9 a10 a11 a12 a13 : Value} (h : Bk w g e [a0, a1, a2, a3, a4, a5, a6, a7, a8, a9, a10, a11, a12, a13]) : w.cell? ⟨g, 0, none⟩ = some a0 ∧ w.cell? ⟨g, 1, none⟩ = some a1 ∧ w.cell? ⟨g, 2, none⟩ = some a2 ∧ w.cell? ⟨g, 3, none⟩ = some a3 ∧ w.cell? ⟨g, 4, none⟩ = some a4 ∧ w.cell? ⟨g, 5, none⟩ = some a5 ∧ w.cell? ⟨g, 6, none⟩ = some a6 ∧ w.cell? ⟨g, 7, none⟩ = some a7 ∧ w.cell? ⟨g, 8, none⟩ = some a8 ∧ w.cell? ⟨g, 9, none⟩ = some a9 ∧ w.cell? ⟨g, 10, none⟩ = some a10 ∧ w.cell? ⟨g, 11, none⟩ = some a11 ∧ w.cell? ⟨g, 12, none⟩ = some a12 ∧ w.cell? ⟨g, 13, none⟩ = some a13 :=
  ⟨h.cell 0, h.cell 1, h.cell 2, h.cell 3, h.cell 4, h.cell 5, h.cell 6, h.cell 7, h.cell 8, h.cell 9, h.cell 10, h.cell 11, h.cell 12, h.cell 13⟩
theorem k_zero (k : Nat) : ((k : Int) == 0) = (k == 0) := by
  cases k with
  | zero => rfl
  | succ k => simp; omega
theorem isfree_any (n : Inode.Ino) (ho : Inode.Oki n) (w : World) : Calls Tryz.prog 72 #[.agg (Inode.cellsI n).toArray] w fun e w' => e = .returned (.bool (n.k == 0)) ∧ Below w.heap.size w w' := by
  obtain ⟨k, rr, l, s, p⟩ := n
  obtain ⟨p0, p1, p2, p3, p4, p5, p6, p7, p8, p9, hp⟩ := Inode.ten_of ho.len
  simp only at hp
  subst hp
  clear ho
  have hk := k_zero k
  obtain ⟨bb, hbb⟩ : ∃ bb, (k == 0) = bb := ⟨_, rfl⟩
  simp only [Inode.cellsI, Inode.intsV, List.map_cons, List.map_nil]
  rw [hbb] at hk ⊢
  clear hbb
  have hb := al_below w (.cells #[.int .u8 (k : Int), .int .u8 (rr : Int), .int .i64 l, .int .i64 s, .int .i64 p0, .int .i64 p1, .int .i64 p2, .int .i64 p3, .int .i64 p4, .int .i64 p5, .int .i64 p6, .int .i64 p7, .int .i64 p8, .int .i64 p9] 40)
  have HB := Lib.hid hb
  have c0 := (Bk.new w 40 [.int .u8 (k : Int), .int .u8 (rr : Int), .int .i64 l, .int .i64 s, .int .i64 p0, .int .i64 p1, .int .i64 p2, .int .i64 p3, .int .i64 p4, .int .i64 p5, .int .i64 p6, .int .i64 p7, .int .i64 p8, .int .i64 p9]).cell 0
  simp only [List.getElem?_cons_zero] at c0
  clear hb
  go_enter Tryz.func72, Tryz.ntmps72
  go_wp2
  go_ret
  exact ⟨rfl, HB.out⟩
/-- Is a block of the group in use? -/
def usedG (pp : Nat) (u : List UInt8) (q : Nat) : Bool := decide (0 < Bits.cnt u ((q : Int) * (pp : Int)) ((q : Int) * (pp : Int) + (pp : Int)) (8 * u.length))
set_option maxRecDepth 100000 in
theorem inuse_any (j i g pp q : Nat) (u : List UInt8) (A : Option Addr) (c : Nat) (w : World) (hl : u.length = 64) (hr : Rd w w.heap.size A (bytesV u)) (hq : (q : Int) * (pp : Int) + (pp : Int) ≤ 512) :
    Calls Tryz.prog 90 #[.agg #[.int .i64 (j : Int), .int .i64 (i : Int), .int .i64 (g : Int), .int .i64 (pp : Int)], .slice A 64 c, .int .i64 (q : Int)] w fun e w' => e = .returned (.bool (usedG pp u q)) ∧ Below w.heap.size w w' := by
  obtain ⟨x, hx⟩ : ∃ x : Int, (q : Int) * (pp : Int) = x := ⟨_, rfl⟩
  have hx0 : 0 ≤ x := by rw [← hx]; exact Int.mul_nonneg (by omega) (by omega)
  rw [hx] at hq
  have hw1 : IntKind.i64.wrap x = x := by rw [IntKind.wrap_i64]; omega
  have hw2 : IntKind.i64.wrap (x + (pp : Int)) = x + (pp : Int) := by rw [IntKind.wrap_i64]; omega
  have HCNT : Hid (∀ v : World, Below w.heap.size w v → Calls Tryz.prog 148 #[.slice A 64 c, .int .i64 x, .int .i64 (x + (pp : Int))] v fun e w' => e = .returned (.int .i64 ((Bits.cnt u x (x + (pp : Int)) (8 * u.length) : Nat) : Int)) ∧ ∃ m, w' = v.drewN m) := Lib.hid (fun v hv =>
    Bits.count_any u A 64 c _ x (x + (pp : Int)) v hl ((hr.below hv).more hv.size) (by decide) (by omega))
  have hus : usedG pp u q = decide (0 < Bits.cnt u x (x + (pp : Int)) (8 * u.length)) := by unfold usedG; rw [hx]
  rw [hus]
  obtain ⟨n, hn⟩ : ∃ n, Bits.cnt u x (x + (pp : Int)) (8 * u.length) = n := ⟨_, rfl⟩
  rw [hn] at HCNT ⊢
  have HG := Lib.hid (geo_box w j i g pp)
  have HB := Lib.hid (al_below w (.cells #[.int .i64 (j : Int), .int .i64 (i : Int), .int .i64 (g : Int), .int .i64 (pp : Int)] 29))
  clear hus hn hr hl
  obtain ⟨g0, g1, g2, g3⟩ := four_cells HG.out
  go_enter Tryz.func90, Tryz.ntmps90
  go_upto_region 1 with fail
  generalize w.alloc (.cells #[.int .i64 (j : Int), .int .i64 (i : Int), .int .i64 (g : Int), .int .i64 (pp : Int)] 29) = W at *
  go_wp2_with (go_at_call 148; (with_reducible refine (HCNT.out _ HB.out).mono ?_); rintro e w1 ⟨he, m, hb⟩; obtain rfl := he; have HW := Lib.hid hb; clear hb)
  go_ret
  exact ⟨rfl, by rw [HW.out]; exact Inode.below_drewN HB.out m⟩
set_option maxRecDepth 100000 in
theorem cons1_any (rows : List Intern.Rw) (r : Nat) (x : Intern.Rw) (hx : rows[r]? = some x) (hrl : rows.length = 16) (A : Option Addr) (c : Nat) (mB : Nat) (v1 v2 v3 : Value) (w : World) (hb : Bk w mB 60 [.slice A 16 c, v1, v2, v3]) (hr : Rd w w.heap.size A (Intern.rowsV rows)) :
    Calls Tryz.prog 126 #[.int .i64 (r : Int), .pointer (some ⟨mB, 0, none⟩)] w fun e w' => e = .returned (.bool (decide (0 < x.refs))) ∧ w = w' := by
  have hlt := (List.getElem?_eq_some_iff.1 hx).1
  obtain ⟨bb, hbb⟩ : ∃ bb, decide (0 < x.refs) = bb := ⟨_, rfl⟩
  rw [hbb]
  rcases Intern.rd_rows hr with h | ⟨b, o, rfl, -, hat⟩
  · rw [h] at hx; simp at hx
  · obtain ⟨-, h2⟩ := hat r x hx
    have c0 := hb.cell 0
    simp only [List.getElem?_cons_zero] at c0
    have hr0 : (0 : Int) ≤ (r : Int) := by omega
    have hr16 : (r : Int) < 16 := by omega
    clear hb hr hat hx hlt
    go_enter Tryz.func126, Tryz.ntmps126
    go_wp2
    go_ret
    exact ⟨rfl, rfl⟩
/-- What is known that is consistent. -/
structure Cons (pp : Nat) (m : Meta.Met) : Prop where
  free : ∀ (q : Nat), m.own[q]? = some 0 → usedG pp m.used q = false
  held : ∀ (q : Nat) (o : Int), m.own[q]? = some o → 0 < o → ∃ r, m.rows[(o - 1).toNat]? = some r ∧ 0 < r.refs
  ino : ∀ n ∈ m.ino, n.k ≠ 0 → ∃ r, m.rows[n.r]? = some r ∧ 0 < r.refs
set_option maxRecDepth 100000 in
set_option maxHeartbeats 1600000 in
theorem cons2_any (rows : List Intern.Rw) (n : Inode.Ino) (ho : Inode.Oki n) (hrl : rows.length = 16) (hc : n.k ≠ 0 → ∃ r, rows[n.r]? = some r ∧ 0 < r.refs) (A : Option Addr) (c : Nat) (mB fB : Nat) (v1 v2 v3 : Value) (w : World) (hb : Bk w mB 60 [.slice A 16 c, v1, v2, v3]) (hf : Bk w fB 120 [.func (.func 126) #[] #[.pointer (some ⟨mB, 0, none⟩)]]) (hr : Rd w w.heap.size A (Intern.rowsV rows)) :
    Calls Tryz.prog 128 #[.agg (Inode.cellsI n).toArray, .pointer (some ⟨fB, 0, none⟩)] w fun e w' => e = .returned (.bool false) ∧ Below w.heap.size w w' := by
  have HFR : Hid (∀ u : World, Calls Tryz.prog 72 #[.agg (Inode.cellsI n).toArray] u fun e w' => e = .returned (.bool (n.k == 0)) ∧ Below u.heap.size u w') := Lib.hid (fun u => isfree_any n ho u)
  have HC1 : Hid (∀ u : World, Below w.heap.size w u → n.k ≠ 0 → Calls Tryz.prog 126 #[.int .i64 (n.r : Int), .pointer (some ⟨mB, 0, none⟩)] u fun e w' => e = .returned (.bool true) ∧ u = w') := Lib.hid (fun u hu hk => by
    obtain ⟨r, h1, h2⟩ := hc hk
    have := cons1_any rows n.r r h1 hrl A c mB v1 v2 v3 u (hb.below hu hb.lt) ((hr.below hu).more hu.size)
    rwa [decide_eq_true h2] at this)
  have HF := Lib.hid hf
  obtain ⟨k, rr, l, s, p⟩ := n
  obtain ⟨p0, p1, p2, p3, p4, p5, p6, p7, p8, p9, hp⟩ := Inode.ten_of ho.len
  have hr256 : rr < 256 := ho.r
  have hrw : IntKind.i64.wrap (rr : Int) = (rr : Int) := by rw [IntKind.wrap_i64]; omega
  simp only at hp
  subst hp
  clear hc hb hf hr ho
  simp only [Inode.cellsI, Inode.intsV, List.map_cons, List.map_nil] at HFR HC1 ⊢
  have hal := al_below w (.cells #[.int .u8 (k : Int), .int .u8 (rr : Int), .int .i64 l, .int .i64 s, .int .i64 p0, .int .i64 p1, .int .i64 p2, .int .i64 p3, .int .i64 p4, .int .i64 p5, .int .i64 p6, .int .i64 p7, .int .i64 p8, .int .i64 p9] 40)
  have HB := Lib.hid hal
  have HBX := Lib.hid (Bk.new w 40 [.int .u8 (k : Int), .int .u8 (rr : Int), .int .i64 l, .int .i64 s, .int .i64 p0, .int .i64 p1, .int .i64 p2, .int .i64 p3, .int .i64 p4, .int .i64 p5, .int .i64 p6, .int .i64 p7, .int .i64 p8, .int .i64 p9])
  have HFX := Lib.hid (HF.out.below hal HF.out.lt)
  clear hal
  by_cases hk : k = 0
  · have hkb : (k == 0) = true := by simp [hk]
    rw [hkb] at HFR
    clear hkb hk HC1 HFX
    go_enter Tryz.func128, Tryz.ntmps128
    go_upto_region 1 with fail
    generalize w.alloc (.cells #[.int .u8 (k : Int), .int .u8 (rr : Int), .int .i64 l, .int .i64 s, .int .i64 p0, .int .i64 p1, .int .i64 p2, .int .i64 p3, .int .i64 p4, .int .i64 p5, .int .i64 p6, .int .i64 p7, .int .i64 p8, .int .i64 p9] 40) = W at *
    obtain ⟨x0, x1, x2, x3, x4, x5, x6, x7, x8, x9, x10, x11, x12, x13⟩ := fourteen_cells HBX.out
    go_wp2_with (go_at_call 72; (with_reducible refine (HFR.out _).mono ?_); rintro e w1 ⟨he, hb⟩; obtain rfl := he; have HB1 := Lib.hid (HB.out.trans (hb.mono HB.out.size)); clear hb)
    go_ret
    exact ⟨rfl, HB1.out⟩
  · have HK := Lib.hid (HC1.out · · hk)
    have hkb : (k == 0) = false := by simp [hk]
    rw [hkb] at HFR
    clear hkb
    go_enter Tryz.func128, Tryz.ntmps128
    go_upto_region 1 with fail
    generalize w.alloc (.cells #[.int .u8 (k : Int), .int .u8 (rr : Int), .int .i64 l, .int .i64 s, .int .i64 p0, .int .i64 p1, .int .i64 p2, .int .i64 p3, .int .i64 p4, .int .i64 p5, .int .i64 p6, .int .i64 p7, .int .i64 p8, .int .i64 p9] 40) = W at *
    obtain ⟨x0, x1, x2, x3, x4, x5, x6, x7, x8, x9, x10, x11, x12, x13⟩ := fourteen_cells HBX.out
    have f0 := HFX.out.cell 0
    simp only [List.getElem?_cons_zero] at f0
    go_wp2_with (first
      | (go_at_call 72; (with_reducible refine (HFR.out _).mono ?_); rintro e w1 ⟨he, hb⟩; obtain rfl := he; have HB1 := Lib.hid (HB.out.trans (hb.mono HB.out.size)); have e1 := (HBX.out.below hb HBX.out.lt).cell 1; have f0 := (HFX.out.below hb HFX.out.lt).cell 0; simp only [List.getElem?_cons_succ, List.getElem?_cons_zero] at e1 f0; clear hb)
      | (go_at_call 126; (with_reducible refine (HK.out _ HB1.out).mono ?_); rintro e w2 ⟨he, hb⟩; obtain rfl := he; subst hb))
    go_ret
    exact ⟨rfl, HB1.out⟩
end Go.Proofs.YtcjkbmmjpkghlaaGreat.Vol

/-
  What is known is consistent.
-/
namespace Go.Proofs.YtcjkbmmjpkghlaaGreat.Vol
open Go.RowKit Keep Meta

set_option maxRecDepth 100000 in
set_option maxHeartbeats 4000000 in
theorem index_none (l : List Inode.Ino) (ho : ∀ m ∈ l, Inode.Oki m) (A : Option Addr) (n c fB : Nat) (w : World) (hn : l.length = n) (hr : Rd w w.heap.size A (inosV l)) (hm : n ≤ 1000000)
    (hc : ∀ u : World, Below w.heap.size w u → ∀ x ∈ l, Calls Tryz.prog 128 #[.agg (Inode.cellsI x).toArray, .pointer (some ⟨fB, 0, none⟩)] u fun e w' => e = .returned (.bool false) ∧ Below u.heap.size u w') :
    Calls Tryz.prog 86 #[.slice A n c, .func (.func 128) #[] #[.pointer (some ⟨fB, 0, none⟩)]] w fun e w' => e = .returned (.int .i64 (-1)) ∧ Below w.heap.size w w' := by
  have Hn := Lib.hid hn
  have Hr := Lib.hid hr
  have HO := Lib.hid ho
  have HC := Lib.hid hc
  clear ho hn hr hc
  go_enter Tryz.func86, Tryz.ntmps86
  go_wp2
  go_loopw [5, 8] (fun _ i wr => ∃ j : Nat, j ≤ n ∧ i = .int .i64 (j : Int) ∧ Hid (Below w.heap.size w wr)) (fun _ i _ => n - (intOf i).toNat)
  case atStart => exact ⟨0, Nat.zero_le _, rfl, Lib.hid (Below.refl _ _)⟩
  case round =>
    obtain ⟨j, hj, rfl, HB⟩ := hrel
    by_cases hlt : j < n
    · obtain ⟨x, hx⟩ : ∃ x, l[j]? = some x := ⟨_, List.getElem?_eq_getElem (by rw [Hn.out]; exact hlt)⟩
      have hmem := List.mem_of_getElem? hx
      have hox := HO.out x hmem
      obtain ⟨b, o, hA, hb⟩ := rd_first Hr.out (by rw [length_inosV HO.out, Hn.out]; omega)
      subst hA
      have HAX := Lib.hid (rd_ino (Hr.out.below HB.out) HO.out hx)
      have HSX := Lib.hid (size_ino' x hox)
      have HCX := Lib.hid (HC.out wr HB.out x hmem)
      clear hox hmem hx
      generalize hcx : Inode.cellsI x = cx at *
      clear hcx
      have hlti : (j : Int) < (n : Int) := by omega
      have hj0 : (0 : Int) ≤ (j : Int) := by omega
      go_wp2_with (first | (refine wpList_load_mid rfl 40 (.tmp 15) rfl b (o + j * 14) rfl cx _ HAX.out Tryz.underlying40 rfl HSX.out ?_) | (refine wpList_load_mid rfl 40 (.tmp 14) rfl b (o + j * 14) rfl cx _ HAX.out Tryz.underlying40 rfl HSX.out ?_) | (go_at_call 128; (with_reducible refine HCX.out.mono ?_); rintro e w2 ⟨he, hb⟩; obtain rfl := he; have HB2 := Lib.hid (HB.out.trans (hb.mono HB.out.size)); clear hb))
      go_roundw
      case rel => exact ⟨j + 1, by omega, by go_num, HB2⟩
      case measure => simp [intOf]; omega
    · obtain rfl : j = n := by omega
      go_wp2
      go_ret
      exact ⟨rfl, HB.out⟩
theorem contains_none (l : List Inode.Ino) (ho : ∀ m ∈ l, Inode.Oki m) (A : Option Addr) (n c fB : Nat) (w : World) (hn : l.length = n) (hr : Rd w w.heap.size A (inosV l)) (hm : n ≤ 1000000)
    (hc : ∀ u : World, Below w.heap.size w u → ∀ x ∈ l, Calls Tryz.prog 128 #[.agg (Inode.cellsI x).toArray, .pointer (some ⟨fB, 0, none⟩)] u fun e w' => e = .returned (.bool false) ∧ Below u.heap.size u w') :
    Calls Tryz.prog 127 #[.slice A n c, .func (.func 128) #[] #[.pointer (some ⟨fB, 0, none⟩)]] w fun e w' => e = .returned (.bool false) ∧ Below w.heap.size w w' := by
  have HX := Lib.hid (index_none l ho A n c fB w hn hr hm hc)
  go_enter Tryz.func127, Tryz.ntmps127
  go_wp2_with (go_at_call 86; (with_reducible refine HX.out.mono ?_); rintro e w2 ⟨he, hb⟩; obtain rfl := he; have HB := Lib.hid hb; clear hb)
  go_ret
  exact ⟨rfl, HB.out⟩
set_option maxRecDepth 100000 in
set_option maxHeartbeats 6400000 in
theorem cons_ok {j i g pp : Nat} (h : VG j i g pp) (m : Meta.Met) (ho : Okm m) (hc : Cons pp m) (M0 M1 M2 M3 : Option Addr) (e0 e1 e2 e3 : Nat) (w : World) (h0 : m.rows.length = 16) (h1 : m.own.length = g) (h2 : m.used.length = 64) (h3 : m.ino.length = i) (hpos : ∀ x ∈ m.own, 0 ≤ x ∧ x ≤ 16) (hl : Lies w w.heap.size ⟨M0, e0, M1, e1, M2, e2, M3, e3⟩ m) :
    Calls Tryz.prog 64 #[.agg #[.int .i64 (j : Int), .int .i64 (i : Int), .int .i64 (g : Int), .int .i64 (pp : Int)], .agg #[.slice M0 16 e0, .slice M1 g e1, .slice M2 64 e2, .slice M3 i e3]] w fun e w' => e = .returned (.bool true) ∧ Below w.heap.size w w' := by
  have hgp := h.v.gp
  have hi2 := h.v.i2
  have hg2 := h.v.g2
  have HIU : Hid (∀ (u : World) (q : Nat), Below w.heap.size w u → q < g → Calls Tryz.prog 90 #[.agg #[.int .i64 (j : Int), .int .i64 (i : Int), .int .i64 (g : Int), .int .i64 (pp : Int)], .slice M2 64 e2, .int .i64 (q : Int)] u fun e w' => e = .returned (.bool (usedG pp m.used q)) ∧ Below u.heap.size u w') := Lib.hid (fun u q hu hq =>
    inuse_any j i g pp q m.used M2 e2 u h2 (((hl.used).below hu).more hu.size) (by
      have h6 : ((q : Int) + 1) * (pp : Int) ≤ (g : Int) * (pp : Int) := Int.mul_le_mul_of_nonneg_right (by omega) (by omega)
      have h7 : ((q : Int) + 1) * (pp : Int) = (q : Int) * (pp : Int) + (pp : Int) := by rw [Int.add_mul, Int.one_mul]
      omega))
  obtain ⟨W, hW⟩ : ∃ W, W = ((w.alloc (.cells #[.int .i64 (j : Int), .int .i64 (i : Int), .int .i64 (g : Int), .int .i64 (pp : Int)] 29)).alloc (.cells #[.slice M0 16 e0, .slice M1 g e1, .slice M2 64 e2, .slice M3 i e3] 60)).alloc (.cells #[.func (.func 126) #[] #[.pointer (some ⟨w.heap.size + 1, 0, none⟩)]] 120) := ⟨_, rfl⟩
  have hst := Bk.new ((w.alloc (.cells #[.int .i64 (j : Int), .int .i64 (i : Int), .int .i64 (g : Int), .int .i64 (pp : Int)] 29)).alloc (.cells #[.slice M0 16 e0, .slice M1 g e1, .slice M2 64 e2, .slice M3 i e3] 60)) 120 [.nilFunc]
  rw [show ((w.alloc (.cells #[.int .i64 (j : Int), .int .i64 (i : Int), .int .i64 (g : Int), .int .i64 (pp : Int)] 29)).alloc (.cells #[.slice M0 16 e0, .slice M1 g e1, .slice M2 64 e2, .slice M3 i e3] 60)).heap.size = w.heap.size + 1 + 1 by simp] at hst
  have hs0 := hst.cell 0
  have hs1 := hst.frozen 0
  simp only [List.getElem?_cons_zero] at hs0
  have hsr : Sem.run Tryz.prog (store ⟨w.heap.size + 1 + 1, 0, none⟩ (.func (.func 126) #[] #[.pointer (some ⟨w.heap.size + 1, 0, none⟩)])) (((w.alloc (.cells #[.int .i64 (j : Int), .int .i64 (i : Int), .int .i64 (g : Int), .int .i64 (pp : Int)] 29)).alloc (.cells #[.slice M0 16 e0, .slice M1 g e1, .slice M2 64 e2, .slice M3 i e3] 60)).alloc (.cells #[.nilFunc] 120)) = .ok () ((((w.alloc (.cells #[.int .i64 (j : Int), .int .i64 (i : Int), .int .i64 (g : Int), .int .i64 (pp : Int)] 29)).alloc (.cells #[.slice M0 16 e0, .slice M1 g e1, .slice M2 64 e2, .slice M3 i e3] 60)).alloc (.cells #[.nilFunc] 120)).setCell ⟨w.heap.size + 1 + 1, 0, none⟩ (.func (.func 126) #[] #[.pointer (some ⟨w.heap.size + 1, 0, none⟩)])) := by
    generalize (((w.alloc (.cells #[.int .i64 (j : Int), .int .i64 (i : Int), .int .i64 (g : Int), .int .i64 (pp : Int)] 29)).alloc (.cells #[.slice M0 16 e0, .slice M1 g e1, .slice M2 64 e2, .slice M3 i e3] 60)).alloc (.cells #[.nilFunc] 120)) = V at *
    rw [run_store _ _ _ _ _ rfl]
    simp [hs0, hs1]
  have hbW : Below w.heap.size w W := by rw [hW]; exact ((Below.refl _ _).alloc (Nat.le_refl _) _ |>.alloc (by simp) _).alloc (by simp; omega) _
  have hG : Bk W w.heap.size 29 [.int .i64 (j : Int), .int .i64 (i : Int), .int .i64 (g : Int), .int .i64 (pp : Int)] := by rw [hW]; exact bk_alloc (bk_alloc (Bk.new w 29 [.int .i64 (j : Int), .int .i64 (i : Int), .int .i64 (g : Int), .int .i64 (pp : Int)]) _) _
  have hM : Bk W (w.heap.size + 1) 60 [.slice M0 16 e0, .slice M1 g e1, .slice M2 64 e2, .slice M3 i e3] := by
    rw [hW]
    have := bk_alloc (Bk.new (w.alloc (.cells #[.int .i64 (j : Int), .int .i64 (i : Int), .int .i64 (g : Int), .int .i64 (pp : Int)] 29)) 60 [.slice M0 16 e0, .slice M1 g e1, .slice M2 64 e2, .slice M3 i e3]) (.cells #[.func (.func 126) #[] #[.pointer (some ⟨w.heap.size + 1, 0, none⟩)]] 120)
    rw [show (w.alloc (.cells #[.int .i64 (j : Int), .int .i64 (i : Int), .int .i64 (g : Int), .int .i64 (pp : Int)] 29)).heap.size = w.heap.size + 1 by simp] at this
    exact this
  have hF : Bk W (w.heap.size + 1 + 1) 120 [.func (.func 126) #[] #[.pointer (some ⟨w.heap.size + 1, 0, none⟩)]] := by
    rw [hW]
    have := Bk.new ((w.alloc (.cells #[.int .i64 (j : Int), .int .i64 (i : Int), .int .i64 (g : Int), .int .i64 (pp : Int)] 29)).alloc (.cells #[.slice M0 16 e0, .slice M1 g e1, .slice M2 64 e2, .slice M3 i e3] 60)) 120 [.func (.func 126) #[] #[.pointer (some ⟨w.heap.size + 1, 0, none⟩)]]
    rw [show ((w.alloc (.cells #[.int .i64 (j : Int), .int .i64 (i : Int), .int .i64 (g : Int), .int .i64 (pp : Int)] 29)).alloc (.cells #[.slice M0 16 e0, .slice M1 g e1, .slice M2 64 e2, .slice M3 i e3] 60)).heap.size = w.heap.size + 1 + 1 by simp] at this
    exact this
  have HC1 : Hid (∀ (u : World) (o : Nat) (q : Nat), Below W.heap.size W u → m.own[q]? = some (o : Int) → 0 < o → Calls Tryz.prog 126 #[.int .i64 ((o : Int) - 1), .pointer (some ⟨w.heap.size + 1, 0, none⟩)] u fun e w' => e = .returned (.bool true) ∧ u = w') := Lib.hid (fun u o q hu hq h0' => by
    obtain ⟨r, k1, k2⟩ := hc.held q o hq (by omega)
    have hwu := hbW.trans (hu.mono hbW.size)
    have e1 : ((o : Int) - 1).toNat = o - 1 := by omega
    rw [e1] at k1
    have := cons1_any m.rows (o - 1) r k1 h0 M0 e0 (w.heap.size + 1) _ _ _ u (hM.below hu hM.lt) ((hl.rows.below hwu).more hwu.size)
    rwa [decide_eq_true k2, show ((o - 1 : Nat) : Int) = (o : Int) - 1 by omega] at this)
  have HCI : Hid (∀ (u : World), Below W.heap.size W u → Calls Tryz.prog 127 #[.slice M3 i e3, .func (.func 128) #[] #[.pointer (some ⟨w.heap.size + 1 + 1, 0, none⟩)]] u fun e w' => e = .returned (.bool false) ∧ Below u.heap.size u w') := Lib.hid (fun u hu => by
    have hwu := hbW.trans (hu.mono hbW.size)
    refine contains_none m.ino ho.ino M3 i e3 _ u h3 ((hl.ino.below hwu).more hwu.size) (by omega) (fun v hv x hx => ?_)
    have hWv := hu.trans (hv.mono hu.size)
    have hwv := hbW.trans (hWv.mono hbW.size)
    exact cons2_any m.rows x (ho.ino x hx) h0 (hc.ino x hx) M0 e0 _ _ _ _ _ v (hM.below hWv hM.lt) (hF.below hWv hF.lt) ((hl.rows.below hwv).more hwv.size))
  have HOW : Hid (∀ u : World, Below w.heap.size w u → Rd u u.heap.size M1 (Inode.intsV m.own)) := Lib.hid (fun u hu => (hl.own.below hu).more hu.size)
  have HFR := Lib.hid hc.free
  have HPS := Lib.hid hpos
  have H1 := Lib.hid h1
  have HG := Lib.hid hG
  have HM := Lib.hid hM
  have HF := Lib.hid hF
  have HB := Lib.hid hbW
  clear h ho hc h0 h1 h2 h3 hpos hl hbW hG hM hF hgp
  go_enter Tryz.func64, Tryz.ntmps64
  go_upto_region 2 with fail
  rw [← hW]
  clear hW hst hs0 hs1 hsr
  obtain ⟨x0, x1, x2, x3⟩ := four_cells HM.out
  go_wp2_with fail
  clear x0 x1 x2 x3
  go_loopw [6, 7, 12] (fun _ _ kc wr => ∃ q : Nat, kc = .int .i64 (q : Int) ∧ q ≤ g ∧ Hid (Below W.heap.size W wr)) (fun _ _ kc _ => g - (intOf kc).toNat)
  case atStart => exact ⟨0, rfl, Nat.zero_le _, Lib.hid (Below.refl _ _)⟩
  case round =>
    obtain ⟨q, rfl, hq, HBR⟩ := hrel
    obtain ⟨x0, x1, x2, x3⟩ := four_cells (HM.out.below HBR.out HM.out.lt)
    have HBW := Lib.hid (HB.out.trans (HBR.out.mono HB.out.size))
    by_cases hlt : q < g
    · obtain ⟨o, ho⟩ : ∃ o, m.own[q]? = some o := ⟨_, List.getElem?_eq_getElem (by rw [H1.out]; exact hlt)⟩
      have hob := HPS.out o (List.mem_of_getElem? ho)
      obtain ⟨n, rfl⟩ := Int.eq_ofNat_of_zero_le hob.1
      have hrd := HOW.out wr HBW.out
      obtain ⟨b, oo, hA, -⟩ := rd_first hrd (by rw [Inode.length_intsV, H1.out]; omega)
      subst hA
      have hco := rd_int hrd ho
      obtain ⟨g0, g1, g2, g3⟩ := four_cells (HG.out.below HBR.out HG.out.lt)
      have hlti : (q : Int) < (g : Int) := by omega
      have hi0 : (0 : Int) ≤ (q : Int) := by omega
      have hiw : IntKind.i64.wrap ((q : Int) + 1) = ((q + 1 : Nat) : Int) := by rw [IntKind.wrap_i64]; omega
      rcases Nat.eq_zero_or_pos n with h0 | h0
      · subst h0
        have hu := HIU.out wr q HBW.out hlt
        rw [HFR.out q ho] at hu
        have HU := Lib.hid hu
        simp only [Int.natCast_zero] at hco
        clear hu ho hob hrd
        go_wp2_with (go_at_call 90; (with_reducible refine HU.out.mono ?_); rintro e w2 ⟨he, hb⟩; obtain rfl := he; have HB2 := Lib.hid (HBR.out.trans (hb.mono HBR.out.size)); clear hb)
        go_roundw
        case rel => exact ⟨q + 1, by first | rfl | (congr 1), hlt, HB2⟩
        case measure => simp [intOf]; omega
      · have hc := HC1.out wr n q HBR.out ho h0
        have HCC := Lib.hid hc
        have hn1 : ((n : Int) == 0) = false := by rw [beq_eq_false_iff_ne]; omega
        have hn2 : (0 : Int) < (n : Int) := by omega
        have hnw : IntKind.i64.wrap ((n : Int) - 1) = (n : Int) - 1 := by rw [IntKind.wrap_i64]; omega
        have hf0 := (HF.out.below HBR.out HF.out.lt).cell 0
        simp only [List.getElem?_cons_zero] at hf0
        clear hc ho hob hrd
        go_wp2_with (go_at_call 126; (with_reducible refine HCC.out.mono ?_); rintro e w2 ⟨he, hb⟩; obtain rfl := he; subst hb)
        go_roundw
        case rel => exact ⟨q + 1, by first | rfl | (congr 1), hlt, HBR⟩
        case measure => simp [intOf]; omega
    · obtain rfl : g = q := by omega
      have hf0 := (HF.out.below HBR.out HF.out.lt).cell 0
      simp only [List.getElem?_cons_zero] at hf0
      go_wp2_with (go_at_call 127; (with_reducible refine (HCI.out _ HBR.out).mono ?_); rintro e w2 ⟨he, hb⟩; obtain rfl := he; have HB2 := Lib.hid (HBW.out.trans (hb.mono HBW.out.size)); clear hb)
      go_ret
      exact ⟨rfl, HB2.out⟩
end Go.Proofs.YtcjkbmmjpkghlaaGreat.Vol
