/-
  Statement ProcPlays: whatever is raised, opened, closed and moved, all answers are the document's. No condition.
-/
import Derived.Test.YtnahccdjeilboaaG
import Derived.Deep.RegionHeld3
namespace Go.Proofs.Ytnahccdjeilboaa.Prc
open Go.RowKit Go.ChangeShapes Go.WideShapes Go.ChangeAt Apart
attribute [local go_sem ↓] Go.wp_at_zero Go.wp_at_succ

def Dx (g : Nat) (a : Act) : Asr := star Emp (Bx g 35 a.cells)
theorem dx_lcl (g : Nat) (a : Act) : Lcl (Dx g a) := emp_lcl.star (bx_lcl g 35 a.cells)
section
variable {W u : World} {b b2 r2 g : Nat} {t s : Tb} {a : Act}
theorem St.cells (h : St W b t (star (RefA b2 r2 s) (Dx g a)) u) : Bk u g 35 a.cells := by
  obtain ⟨P, P1, P2, -, ⟨P3, P4, -, h1, -⟩, -⟩ := h.rest
  exact h1.1
theorem rdx_lcl : Lcl (star (RefA b2 r2 s) (Dx g a)) := (ref_lcl b2 r2 s).star (dx_lcl g a)
theorem re_lcl : Lcl (star (RefA b2 r2 s) Emp) := (ref_lcl b2 r2 s).star emp_lcl
theorem St.act (h : St W b t (star (RefA b2 r2 s) Emp) u) (a : Act) : St W b t (star (RefA b2 r2 s) (Dx u.heap.size a)) (u.alloc (.cells a.cells.toArray 35)) := (h.box re_lcl 35 a.cells).assoc
theorem St.cells5 (h : St W b t (star (RefA b2 r2 s) (Dx g a)) u) : u.cell? ⟨g, 0, none⟩ = some (.int .u8 (a.kind : Int)) ∧ u.cell? ⟨g, 1, none⟩ = some (.int .i64 a.p) ∧ u.cell? ⟨g, 2, none⟩ = some (.int .i64 a.fd) ∧ u.cell? ⟨g, 3, none⟩ = some (.int .i64 a.n) ∧ u.cell? ⟨g, 4, none⟩ = some (.int .u16 (a.label : Int)) :=
  ⟨h.cells.cell 0, h.cells.cell 1, h.cells.cell 2, h.cells.cell 3, h.cells.cell 4⟩
theorem St.noact (h : St W b t (star (RefA b2 r2 s) (Dx g a)) u) : St W b t (star (RefA b2 r2 s) Emp) u := h.drop3
theorem St.does1 (h : St W b t (star (RefA b2 r2 s) (Dx g a)) u) (ha : a.Good) :
    Calls Try.prog 12 #[.pointer (some ⟨b, 0, none⟩), .agg #[.int .u8 (a.kind : Int), .int .i64 a.p, .int .i64 a.fd, .int .i64 a.n, .int .u16 (a.label : Int)]] u fun e w' => e = .returned (.tuple #[.int .i64 (doesA t a).1, .int .i64 (doesA t a).2.1]) ∧ St W b (doesA t a).2.2 (star (RefA b2 r2 s) (Dx g a)) w' := St.does rdx_lcl h a ha
theorem St.model1 (h : St W b t (star (RefA b2 r2 s) (Dx g a)) u) (hs : s.Ok) (ha : a.Good) :
    Calls Try.prog 13 #[.pointer (some ⟨b2, 0, none⟩), .agg #[.int .u8 (a.kind : Int), .int .i64 a.p, .int .i64 a.fd, .int .i64 a.n, .int .u16 (a.label : Int)]] u fun e w' => e = .returned (.tuple #[.int .i64 (doesA s a).1, .int .i64 (doesA s a).2.1]) ∧ St W b t (star (RefA b2 r2 (doesA s a).2.2) (Dx g a)) w' := St.model2 (dx_lcl g a) h hs a ha
theorem St.rfd (h : St W b t (star (RefA b2 r2 s) (Dx g a)) u) (p fd : Int) :
    Calls Try.prog 15 #[.pointer (some ⟨b2, 0, none⟩), .int .i64 p, .int .i64 fd] u fun e w' => e = .returned (.tuple #[.agg #[.int .i64 (fdA s p fd).1.1, .int .i64 (fdA s p fd).1.2], .int .i64 (fdA s p fd).2]) ∧ Below u.heap.size u w' ∧ St W b t (star (RefA b2 r2 s) (Dx g a)) w' := by
  refine (rfd_any h.ref2 p fd).mono ?_
  rintro e w' ⟨he, hb⟩
  exact ⟨he, hb, h.later rdx_lcl hb⟩
end
/-- What the last region of a round reads. -/
def Sq (W : World) (b b2 r2 g gx gy : Nat) (t : Tb) (a : Act) (x1 x2 : Int) (u : World) : Prop := St W b t (star (RefA b2 r2 t) (Dx g a)) u ∧ Bk u gx 40 [.int .i64 x1, .int .i64 x2] ∧ Bk u gy 40 [.int .i64 x1, .int .i64 x2]
section
variable {W u w' : World} {b b2 r2 g gx gy : Nat} {t : Tb} {k la : Nat} {p fd nn x1 x2 : Int}
abbrev S1 (W : World) (b b2 r2 g gx gy : Nat) (t : Tb) (k : Nat) (p fd nn : Int) (la : Nat) (x1 x2 : Int) : World → Prop := fun u => u.cell? ⟨g, 1, none⟩ = some (.int .i64 p) ∧ u.cell? ⟨g, 3, none⟩ = some (.int .i64 nn) ∧ u.cell? ⟨gx, 0, none⟩ = some (.int .i64 x1) ∧ u.cell? ⟨gx, 1, none⟩ = some (.int .i64 x2) ∧ u.cell? ⟨gy, 0, none⟩ = some (.int .i64 x1) ∧ u.cell? ⟨gy, 1, none⟩ = some (.int .i64 x2) ∧ u.cell? ⟨b2, 0, none⟩ = some (.slice (some ⟨r2, 0, none⟩) t.n t.n) ∧ Sq W b b2 r2 g gx gy t ⟨k, p, fd, nn, la⟩ x1 x2 u
theorem Sq.one (h : Sq W b b2 r2 g gx gy t ⟨k, p, fd, nn, la⟩ x1 x2 u) : S1 W b b2 r2 g gx gy t k p fd nn la x1 x2 u :=
  ⟨h.1.cells5.2.1, h.1.cells5.2.2.2.1, h.2.1.cell 0, h.2.1.cell 1, h.2.2.cell 0, h.2.2.cell 1, h.1.ref2.c0, h⟩
theorem Sq.below (h : Sq W b b2 r2 g gx gy t ⟨k, p, fd, nn, la⟩ x1 x2 u) (hb : Below u.heap.size u w') : Sq W b b2 r2 g gx gy t ⟨k, p, fd, nn, la⟩ x1 x2 w' := ⟨h.1.later rdx_lcl hb, h.2.1.below hb h.2.1.lt, h.2.2.below hb h.2.2.lt⟩
theorem Sq.drew (h : Sq W b b2 r2 g gx gy t ⟨k, p, fd, nn, la⟩ x1 x2 u) : Sq W b b2 r2 g gx gy t ⟨k, p, fd, nn, la⟩ x1 x2 u.drew := h.below (Below.refl _ u).drew
theorem Sq.of1 (h : u.cell? ⟨g, 1, none⟩ = some (.int .i64 p) ∧ u.cell? ⟨g, 3, none⟩ = some (.int .i64 nn) ∧ u.cell? ⟨gx, 0, none⟩ = some (.int .i64 x1) ∧ u.cell? ⟨gx, 1, none⟩ = some (.int .i64 x2) ∧ u.cell? ⟨gy, 0, none⟩ = some (.int .i64 x1) ∧ u.cell? ⟨gy, 1, none⟩ = some (.int .i64 x2) ∧ u.cell? ⟨b2, 0, none⟩ = some (.slice (some ⟨r2, 0, none⟩) t.n t.n) ∧ Sq W b b2 r2 g gx gy t ⟨k, p, fd, nn, la⟩ x1 x2 u) : Sq W b b2 r2 g gx gy t ⟨k, p, fd, nn, la⟩ x1 x2 u := h.2.2.2.2.2.2.2
theorem Sq.of2 {q : Nat} (h : u.cell? ⟨r2, q * 25, none⟩ = some (.int .u16 (t.lab q : Int)) ∧ u.cell? ⟨g, 1, none⟩ = some (.int .i64 (q : Int)) ∧ u.cell? ⟨g, 3, none⟩ = some (.int .i64 nn) ∧ u.cell? ⟨gx, 0, none⟩ = some (.int .i64 x1) ∧ u.cell? ⟨gx, 1, none⟩ = some (.int .i64 x2) ∧ u.cell? ⟨gy, 0, none⟩ = some (.int .i64 x1) ∧ u.cell? ⟨gy, 1, none⟩ = some (.int .i64 x2) ∧ u.cell? ⟨b2, 0, none⟩ = some (.slice (some ⟨r2, 0, none⟩) t.n t.n) ∧ Sq W b b2 r2 g gx gy t ⟨k, (q : Int), fd, nn, la⟩ x1 x2 u) : Sq W b b2 r2 g gx gy t ⟨k, (q : Int), fd, nn, la⟩ x1 x2 u := h.2.2.2.2.2.2.2.2
abbrev S2 (W : World) (b b2 r2 g gx gy : Nat) (t : Tb) (k : Nat) (q : Nat) (fd nn : Int) (la : Nat) (x1 x2 : Int) : World → Prop := fun u => u.cell? ⟨r2, q * 25, none⟩ = some (.int .u16 (t.lab q : Int)) ∧ S1 W b b2 r2 g gx gy t k (q : Int) fd nn la x1 x2 u
theorem Sq.two {q : Nat} (h : Sq W b b2 r2 g gx gy t ⟨k, (q : Int), fd, nn, la⟩ x1 x2 u) (hq : q < t.n) : S2 W b b2 r2 g gx gy t k q fd nn la x1 x2 u := ⟨h.1.ref2.lab hq, h.one⟩
end
set_option maxRecDepth 100000 in
set_option maxHeartbeats 400000 in
theorem plays_no (n : Int) (hn : newB n = false) (v : Value) (w : World) :
    Calls Try.prog 3 #[.int .i64 n, v] w fun e w' => e = .returned (.bool true) ∧ Below w.heap.size w w' := by
  go_enter Try.func3, Try.ntmps3
  go_wp2_with fail
  refine (shown_any _).mono ?_
  rintro e w1 ⟨rfl, hb⟩
  have L := Lib.hid hb
  clear hb
  go_wp2_with fail
  refine (new_no _ hn).mono ?_
  rintro e w2 ⟨rfl, rfl⟩
  go_wp2_with fail
  refine (rnew_no _ hn).mono ?_
  rintro e w2 ⟨rfl, rfl⟩
  go_wp2
  go_ret
  exact ⟨rfl, L.out⟩
set_option maxRecDepth 100000 in
set_option maxHeartbeats 3200000 in
theorem plays_yes (n : Nat) (h1 : 1 ≤ n) (h2 : n ≤ 8) (l : List Act) (A : Option Addr) (m c : Nat) (w : World) (hn : l.length = m) (hc : m ≤ c) (hm : c ≤ 9223372036854775807) (hr : Acts w w.heap.size A l) :
    Calls Try.prog 3 #[.int .i64 (n : Int), .slice A m c] w fun e w' => e = .returned (.bool true) ∧ Below w.heap.size w w' := by
  obtain ⟨q, hq⟩ : ∃ q, q = min m 200 := ⟨_, rfl⟩
  have hqm : q ≤ m := by omega
  have hqc : q ≤ c := by omega
  have Hq := Lib.hid hq
  have Hr := Lib.hid hr
  have Hn := Lib.hid hn
  have FEW := Lib.hid fun u => few_any m c A u hc hm
  rw [← hq] at FEW
  clear hq hr hn
  go_enter Try.func3, Try.ntmps3
  go_wp2_with fail
  refine (shown_any _).mono ?_
  rintro e w1 ⟨rfl, hb⟩
  have L := Lib.hid hb
  clear hb
  go_wp2_with fail
  refine (st_new (n := n) L.out h1 h2).mono ?_
  rintro e w2 ⟨b, rfl, hx⟩
  have H2 := Lib.hid hx
  clear hx L
  go_wp2_with fail
  refine (st_rnew (n := n) H2.out h1 h2).mono ?_
  rintro e w3 ⟨b2, r2, rfl, hx⟩
  have H3 : Hid (St w b (empty n) (star (RefA b2 r2 (empty n)) Emp) w3) := St.weak hx fun P h => ⟨P, ⟨P, fun _ => False, h, fun _ hi => hi, fun i => by simp, fun _ _ hi => hi⟩, fun _ hi => hi⟩
  clear hx H2
  go_wp2_with (go_at_call 11; refine (FEW.out _).mono ?_; rintro e w' ⟨rfl, rfl⟩)
  have H0 : Hid (empty n).Ok := empty_ok h1 h2
  go_loopw [55] (fun i wr => ∃ (j : Nat) (t : Tb), j ≤ q ∧ i = .int .i64 (j : Int) ∧ t.Ok ∧ St w b t (star (RefA b2 r2 t) Emp) wr) (fun i _ => q - (intOf i).toNat)
  case atStart => exact ⟨0, empty n, Nat.zero_le _, rfl, H0.out, H3.out⟩
  case round =>
    obtain ⟨j, t, hj, rfl, ht, hS⟩ := hrel
    have HS := Lib.hid hS
    have HT := Lib.hid ht
    clear hS ht H3 H0
    by_cases hlt : j < q
    · have hlt2 : (j : Int) < (q : Int) := by omega
      obtain ⟨bb, o, a, rfl, hbb, ha, hg, c0, c1, c2, c3, c4⟩ := (Hr.out.below HS.out.bel).at (i := j) (by rw [Hn.out]; omega)
      have hbr : bb < wr.heap.size := Nat.lt_of_lt_of_le hbb HS.out.bel.size
      have HG := Lib.hid hg
      have HA := Lib.hid (HS.out.act a)
      have hT2 := does_ok HT.out hg.label
      clear ha hg
      have HT2 := Lib.hid hT2
      obtain ⟨k, p, fd, nn, la⟩ := a
      have HA : Hid (St w b t (star (RefA b2 r2 t) (Dx wr.heap.size ⟨k, p, fd, nn, la⟩)) (wr.alloc (.cells #[.int .u8 (k : Int), .int .i64 p, .int .i64 fd, .int .i64 nn, .int .u16 (la : Int)] 35))) := HA
      have c0 : wr.cell? ⟨bb, o + j * 5, none⟩ = some (.int .u8 (k : Int)) := c0
      have c1 : wr.cell? ⟨bb, o + j * 5 + 1, none⟩ = some (.int .i64 p) := c1
      have c2 : wr.cell? ⟨bb, o + j * 5 + 2, none⟩ = some (.int .i64 fd) := c2
      have c3 : wr.cell? ⟨bb, o + j * 5 + 3, none⟩ = some (.int .i64 nn) := c3
      have c4 : wr.cell? ⟨bb, o + j * 5 + 4, none⟩ = some (.int .u16 (la : Int)) := c4
      obtain ⟨g, hgg⟩ : ∃ g, g = wr.heap.size := ⟨_, rfl⟩
      have Hgg := Lib.hid hgg
      clear hT2 hgg
      go_wp2_with fail
      refine (St.does1 HA.out HG.out).mono ?_
      rintro e w4 ⟨rfl, hx⟩
      rw [← Hgg.out] at hx ⊢
      have H4 := Lib.hid hx
      obtain ⟨d0, d1, d2, d3, d4⟩ := H4.out.cells5
      have d0 : w4.cell? ⟨g, 0, none⟩ = some (.int .u8 (k : Int)) := d0
      have d1 : w4.cell? ⟨g, 1, none⟩ = some (.int .i64 p) := d1
      have d2 : w4.cell? ⟨g, 2, none⟩ = some (.int .i64 fd) := d2
      have d3 : w4.cell? ⟨g, 3, none⟩ = some (.int .i64 nn) := d3
      have d4 : w4.cell? ⟨g, 4, none⟩ = some (.int .u16 (la : Int)) := d4
      clear hx c0 c1 c2 c3 c4
      have HM := Lib.hid (St.model1 H4.out HT.out HG.out)
      generalize doesA t ⟨k, p, fd, nn, la⟩ = R at *
      obtain ⟨i1, g1, t2⟩ := R
      go_wp2_with fail
      refine HM.out.mono ?_
      rintro e w5 ⟨rfl, hx⟩
      have H5 : Hid (St w b t2 (star (RefA b2 r2 t2) (Dx g ⟨k, p, fd, nn, la⟩)) w5) := Lib.hid hx
      have HT2 : Hid t2.Ok := HT2
      clear hx d0 d1 d2 d3 d4 H4 HM HA
      obtain ⟨d0, d1, d2, d3, d4⟩ := H5.out.cells5
      have d0 : w5.cell? ⟨g, 0, none⟩ = some (.int .u8 (k : Int)) := d0
      have d1 : w5.cell? ⟨g, 1, none⟩ = some (.int .i64 p) := d1
      have d2 : w5.cell? ⟨g, 2, none⟩ = some (.int .i64 fd) := d2
      have d3 : w5.cell? ⟨g, 3, none⟩ = some (.int .i64 nn) := d3
      have d4 : w5.cell? ⟨g, 4, none⟩ = some (.int .u16 (la : Int)) := d4
      go_wp2_with fail
      refine (St.fd rdx_lcl H5.out p fd).mono ?_
      rintro e w6 ⟨rfl, -, hx⟩
      have H6 := Lib.hid hx
      clear hx d0 d1 d2 d3 d4 H5
      obtain ⟨d0, d1, d2, d3, d4⟩ := H6.out.cells5
      have d0 : w6.cell? ⟨g, 0, none⟩ = some (.int .u8 (k : Int)) := d0
      have d1 : w6.cell? ⟨g, 1, none⟩ = some (.int .i64 p) := d1
      have d2 : w6.cell? ⟨g, 2, none⟩ = some (.int .i64 fd) := d2
      have d3 : w6.cell? ⟨g, 3, none⟩ = some (.int .i64 nn) := d3
      have d4 : w6.cell? ⟨g, 4, none⟩ = some (.int .u16 (la : Int)) := d4
      have HF := Lib.hid fun u (hu : RefG b2 r2 t2 u) => rfd_any hu p fd
      obtain ⟨F, hF⟩ : ∃ F, F = fdA t2 p fd := ⟨_, rfl⟩
      rw [← hF] at HF
      have hgl := H6.out.cells.lt
      obtain ⟨gx, hgx⟩ : ∃ gx, gx = w6.heap.size := ⟨_, rfl⟩
      have Hgx := Lib.hid hgx
      have HFF := Lib.hid hF
      clear hF hgx
      go_wp2_with fail
      rw [← HFF.out, ← Hgx.out]
      obtain ⟨⟨x1, x2⟩, y⟩ := F
      have HF : Hid (∀ u, RefG b2 r2 t2 u → Calls Try.prog 15 #[.pointer (some ⟨b2, 0, none⟩), .int .i64 p, .int .i64 fd] u fun e w' => e = .returned (.tuple #[.agg #[.int .i64 x1, .int .i64 x2], .int .i64 y]) ∧ Below u.heap.size u w') := HF
      have H7 : Hid (St w b t2 (star (RefA b2 r2 t2) (Dx g ⟨k, p, fd, nn, la⟩)) (w6.alloc (.cells #[.int .i64 x1, .int .i64 x2] 40))) := H6.out.later rdx_lcl ((Below.refl _ w6).alloc (Nat.le_refl _) _)
      have BX : Hid (Bk (w6.alloc (.cells #[.int .i64 x1, .int .i64 x2] 40)) gx 40 [.int .i64 x1, .int .i64 x2]) := by
        rw [Hgx.out]
        exact Bk.new w6 40 [.int .i64 x1, .int .i64 x2]
      clear Hgx HFF H6 d0 d1 d2 d3 d4 hgl
      show Calls Try.prog 15 _ (w6.alloc (.cells #[.int .i64 x1, .int .i64 x2] 40)) _
      generalize w6.alloc (.cells #[.int .i64 x1, .int .i64 x2] 40) = w7 at *
      refine (HF.out _ H7.out.ref2).mono ?_
      rintro e w8 ⟨rfl, hb⟩
      have H8 := Lib.hid (H7.out.later rdx_lcl hb)
      have BX8 := Lib.hid (BX.out.below hb BX.out.lt)
      clear hb H7 BX HF
      have HH := Lib.hid fun u (hu : RefG b2 r2 t2 u) => rholds_any hu HT2.out nn
      have HP := Lib.hid fun u (hu : RefG b2 r2 t2 u) => rhas_any hu p
      have hHo := holdsA t2 nn
      obtain ⟨hh, hhh⟩ : ∃ hh : Nat, hh = holdsA t2 nn := ⟨_, rfl⟩
      rw [← hhh] at HH
      have HHH := Lib.hid hhh
      clear hhh hHo
      obtain ⟨gy, hgy⟩ : ∃ gy, gy = w8.heap.size := ⟨_, rfl⟩
      have Hgy := Lib.hid hgy
      have hxy : gx ≠ gy := by have := BX8.out.lt; omega
      have hyx : gy ≠ gx := Ne.symm hxy
      have hgl := H8.out.cells.lt
      have hxl := BX8.out.lt
      obtain ⟨d0, d1, d2, d3, d4⟩ := H8.out.cells5
      have d0 : w8.cell? ⟨g, 0, none⟩ = some (.int .u8 (k : Int)) := d0
      have d1 : w8.cell? ⟨g, 1, none⟩ = some (.int .i64 p) := d1
      have d2 : w8.cell? ⟨g, 2, none⟩ = some (.int .i64 fd) := d2
      have d3 : w8.cell? ⟨g, 3, none⟩ = some (.int .i64 nn) := d3
      have d4 : w8.cell? ⟨g, 4, none⟩ = some (.int .u16 (la : Int)) := d4
      have hgs := fd_nsame x1 x2
      have hgd := guard_at40
      clear hgy
      go_wp2_with fail
      rw [← Hgy.out]
      have H9 : Hid (St w b t2 (star (RefA b2 r2 t2) (Dx g ⟨k, p, fd, nn, la⟩)) (w8.alloc (.cells #[.int .i64 x1, .int .i64 x2] 40))) := H8.out.later rdx_lcl ((Below.refl _ w8).alloc (Nat.le_refl _) _)
      have BX9 := Lib.hid (BX8.out.below ((Below.refl _ w8).alloc (Nat.le_refl _) (.cells #[.int .i64 x1, .int .i64 x2] 40)) BX8.out.lt)
      have BY : Hid (Bk (w8.alloc (.cells #[.int .i64 x1, .int .i64 x2] 40)) gy 40 [.int .i64 x1, .int .i64 x2]) := by
        rw [Hgy.out]
        exact Bk.new w8 40 [.int .i64 x1, .int .i64 x2]
      clear Hgy H8 BX8 d0 d1 d2 d3 d4 hgl hxl
      show Calls Try.prog 16 _ (w8.alloc (.cells #[.int .i64 x1, .int .i64 x2] 40)) _
      generalize w8.alloc (.cells #[.int .i64 x1, .int .i64 x2] 40) = w9 at *
      refine (H9.out.label p).mono ?_
      rintro e w' ⟨rfl, rfl⟩
      obtain ⟨d0, d1, d2, d3, d4⟩ := H9.out.cells5
      have d0 : w9.cell? ⟨g, 0, none⟩ = some (.int .u8 (k : Int)) := d0
      have d1 : w9.cell? ⟨g, 1, none⟩ = some (.int .i64 p) := d1
      have d2 : w9.cell? ⟨g, 2, none⟩ = some (.int .i64 fd) := d2
      have d3 : w9.cell? ⟨g, 3, none⟩ = some (.int .i64 nn) := d3
      have d4 : w9.cell? ⟨g, 4, none⟩ = some (.int .u16 (la : Int)) := d4
      have HQ : Hid (Sq w b b2 r2 g gx gy t2 ⟨k, p, fd, nn, la⟩ x1 x2 w9) := ⟨H9.out, BX9.out, BY.out⟩
      clear BX9 BY H9 d0 d1 d2 d3 d4
      cases hb : hasB t2.n p
      · have e1 : labelA t2 p = (0, 1) := by simp [labelA, hb]
        rw [hb] at HP
        rw [e1]
        clear e1 hb
        go_wp2_with fail
        simp only [List.append]
        refine wp_region_held_drew (S := fun u => u.cell? ⟨g, 1, none⟩ = some (.int .i64 p) ∧ u.cell? ⟨g, 3, none⟩ = some (.int .i64 nn) ∧ u.cell? ⟨gx, 0, none⟩ = some (.int .i64 x1) ∧ u.cell? ⟨gx, 1, none⟩ = some (.int .i64 x2) ∧ u.cell? ⟨gy, 0, none⟩ = some (.int .i64 x1) ∧ u.cell? ⟨gy, 1, none⟩ = some (.int .i64 x2) ∧ u.cell? ⟨b2, 0, none⟩ = some (.slice (some ⟨r2, 0, none⟩) t2.n t2.n) ∧ Sq w b b2 r2 g gx gy t2 ⟨k, p, fd, nn, la⟩ x1 x2 u) (by kernel_rfl) HQ.out.drew.one (fun hHeld => ?_)
        refine wpAnyH_take (i := 0) (oi := _) (v := ?_) (by simp only [List.getElem?_toArray, List.getElem?_cons_zero]; rfl) (by kernel_rfl) (by kernel_rfl) (by kernel_rfl) (by exact fun _ _ _ h => h) (Or.inl ⟨by rfl, ?hya0⟩) (by assumption) ?rea0
        case hya0 => (rintro u ⟨s0, s1, s2, s3, s4, s5, s6, -⟩; go_simp <;> with_reducible rfl)
        try simp only [Act.put, List.setIfInBounds_toArray, List.set_cons_zero, List.set_cons_succ]
        refine wpAnyH_take (i := 1) (oi := _) (v := ?_) (by simp only [List.getElem?_toArray, List.getElem?_cons_succ, List.getElem?_cons_zero]; rfl) (by kernel_rfl) (by kernel_rfl) (by kernel_rfl) (by exact fun _ _ _ h => h) (Or.inl ⟨by rfl, ?hya1⟩) (by assumption) ?rea1
        case hya1 => (rintro u ⟨s0, s1, s2, s3, s4, s5, s6, -⟩; go_simp <;> with_reducible rfl)
        try simp only [Act.put, List.setIfInBounds_toArray, List.set_cons_zero, List.set_cons_succ]
        refine wpAnyH_take (i := 2) (oi := _) (v := ?_) (by simp only [List.getElem?_toArray, List.getElem?_cons_succ, List.getElem?_cons_zero]; rfl) (by kernel_rfl) (by kernel_rfl) (by kernel_rfl) (by exact fun _ _ _ h => h) (Or.inl ⟨by rfl, ?hya2⟩) (by assumption) ?rea2
        case hya2 => (rintro u ⟨s0, s1, s2, s3, s4, s5, s6, -⟩; go_simp <;> with_reducible rfl)
        try simp only [Act.put, List.setIfInBounds_toArray, List.set_cons_zero, List.set_cons_succ]
        refine wpAnyH_take (i := 3) (oi := _) (v := ?_) (by simp only [List.getElem?_toArray, List.getElem?_cons_succ, List.getElem?_cons_zero]; rfl) (by kernel_rfl) (by kernel_rfl) (by kernel_rfl) (by exact fun _ _ _ h => h) (Or.inl ⟨by rfl, ?hya3⟩) (by assumption) ?rea3
        case hya3 => (rintro u ⟨s0, s1, s2, s3, s4, s5, s6, -⟩; go_simp <;> with_reducible rfl)
        try simp only [Act.put, List.setIfInBounds_toArray, List.set_cons_zero, List.set_cons_succ]
        refine wpAnyH_take (i := 4) (oi := _) (v := ?_) (by simp only [List.getElem?_toArray, List.getElem?_cons_succ, List.getElem?_cons_zero]; rfl) (by kernel_rfl) (by kernel_rfl) (by kernel_rfl) (by exact fun _ _ _ h => h) (Or.inl ⟨by rfl, ?hya4⟩) (by assumption) ?rea4
        case hya4 => (rintro u ⟨s0, s1, s2, s3, s4, s5, s6, -⟩; go_simp <;> with_reducible rfl)
        try simp only [Act.put, List.setIfInBounds_toArray, List.set_cons_zero, List.set_cons_succ]
        refine wpAnyH_take (i := 5) (oi := _) (v := ?_) (by simp only [List.getElem?_toArray, List.getElem?_cons_succ, List.getElem?_cons_zero]; rfl) (by kernel_rfl) (by kernel_rfl) (by kernel_rfl) (by exact fun _ _ _ h => h) (Or.inl ⟨by rfl, ?hya5⟩) (by assumption) ?rea5
        case hya5 => (rintro u ⟨s0, s1, s2, s3, s4, s5, s6, -⟩; go_simp <;> with_reducible rfl)
        try simp only [Act.put, List.setIfInBounds_toArray, List.set_cons_zero, List.set_cons_succ]
        refine wpAnyH_take (i := 6) (oi := _) (v := ?_) (by simp only [List.getElem?_toArray, List.getElem?_cons_succ, List.getElem?_cons_zero]; rfl) (by kernel_rfl) (by kernel_rfl) (by kernel_rfl) (by exact fun _ _ _ h => h) (Or.inl ⟨by rfl, ?hya6⟩) (by assumption) ?rea6
        case hya6 => (rintro u ⟨s0, s1, s2, s3, s4, s5, s6, -⟩; go_simp <;> with_reducible rfl)
        try simp only [Act.put, List.setIfInBounds_toArray, List.set_cons_zero, List.set_cons_succ]
        refine wpAnyH_take (i := 7) (oi := _) (v := ?_) (by simp only [List.getElem?_toArray, List.getElem?_cons_succ, List.getElem?_cons_zero]; rfl) (by kernel_rfl) (by kernel_rfl) (by kernel_rfl) (by exact fun _ _ _ h => h) (Or.inl ⟨by rfl, ?hya7⟩) (by assumption) ?rea7
        case hya7 => (rintro u ⟨s0, s1, s2, s3, s4, s5, s6, -⟩; go_simp <;> with_reducible rfl)
        try simp only [Act.put, List.setIfInBounds_toArray, List.set_cons_zero, List.set_cons_succ]
        refine wpAnyH_take (i := 8) (oi := _) (v := ?_) (by simp only [List.getElem?_toArray, List.getElem?_cons_succ, List.getElem?_cons_zero]; rfl) (by kernel_rfl) (by kernel_rfl) (by kernel_rfl) (by exact fun _ _ _ h => h) (Or.inl ⟨by rfl, ?hya8⟩) (by assumption) ?rea8
        case hya8 => (rintro u ⟨s0, s1, s2, s3, s4, s5, s6, -⟩; go_simp <;> with_reducible rfl)
        try simp only [Act.put, List.setIfInBounds_toArray, List.set_cons_zero, List.set_cons_succ]
        refine wpAnyH_take (i := 9) (oi := _) (v := ?_) (by simp only [List.getElem?_toArray, List.getElem?_cons_succ, List.getElem?_cons_zero]; rfl) (by kernel_rfl) (by kernel_rfl) (by kernel_rfl) (by exact fun _ _ _ h => h) (Or.inl ⟨by rfl, ?hya9⟩) (by assumption) ?rea9
        case hya9 => (rintro u ⟨s0, s1, s2, s3, s4, s5, s6, -⟩; go_simp <;> with_reducible rfl)
        try simp only [Act.put, List.setIfInBounds_toArray, List.set_cons_zero, List.set_cons_succ]
        refine wpAnyH_take (i := 10) (oi := _) (v := ?_) (by simp only [List.getElem?_toArray, List.getElem?_cons_succ, List.getElem?_cons_zero]; rfl) (by kernel_rfl) (by kernel_rfl) (by kernel_rfl) (by exact fun _ _ _ h => h) (Or.inl ⟨by rfl, ?hya10⟩) (by assumption) ?rea10
        case hya10 => (rintro u ⟨s0, s1, s2, s3, s4, s5, s6, -⟩; go_simp <;> with_reducible rfl)
        try simp only [Act.put, List.setIfInBounds_toArray, List.set_cons_zero, List.set_cons_succ]
        refine wpAnyH_take (i := 11) (oi := _) (v := ?_) (by simp only [List.getElem?_toArray, List.getElem?_cons_succ, List.getElem?_cons_zero]; rfl) (by kernel_rfl) (by kernel_rfl) (by kernel_rfl) (by exact fun _ _ _ h => h) (Or.inl ⟨by rfl, ?hya11⟩) (by assumption) ?rea11
        case hya11 => (rintro u ⟨s0, s1, s2, s3, s4, s5, s6, -⟩; go_simp <;> with_reducible rfl)
        try simp only [Act.put, List.setIfInBounds_toArray, List.set_cons_zero, List.set_cons_succ]
        refine wpAnyH_take (i := 12) (oi := _) (v := ?_) (by simp only [List.getElem?_toArray, List.getElem?_cons_succ, List.getElem?_cons_zero]; rfl) (by kernel_rfl) (by kernel_rfl) (by kernel_rfl) (by exact fun _ _ _ h => h) (Or.inl ⟨by rfl, ?hya12⟩) (by assumption) ?rea12
        case hya12 => (rintro u ⟨s0, s1, s2, s3, s4, s5, s6, -⟩; go_simp <;> with_reducible rfl)
        try simp only [Act.put, List.setIfInBounds_toArray, List.set_cons_zero, List.set_cons_succ]
        refine wpAnyH_take (i := 13) (oi := _) (v := ?_) (by simp only [List.getElem?_toArray, List.getElem?_cons_succ, List.getElem?_cons_zero]; rfl) (by kernel_rfl) (by kernel_rfl) (by kernel_rfl) (by exact fun _ _ _ h => h) (Or.inl ⟨by rfl, ?hya13⟩) (by assumption) ?rea13
        case hya13 => (rintro u ⟨s0, s1, s2, s3, s4, s5, s6, -⟩; go_simp <;> with_reducible rfl)
        try simp only [Act.put, List.setIfInBounds_toArray, List.set_cons_zero, List.set_cons_succ]
        refine wpAnyH_take (i := 14) (oi := _) (v := ?_) (by simp only [List.getElem?_toArray, List.getElem?_cons_succ, List.getElem?_cons_zero]; rfl) (by kernel_rfl) (by kernel_rfl) (by kernel_rfl) (by exact fun _ _ _ h => h) (Or.inl ⟨by rfl, ?hya14⟩) (by assumption) ?rea14
        case hya14 => (rintro u ⟨s0, s1, s2, s3, s4, s5, s6, -⟩; go_simp <;> with_reducible rfl)
        try simp only [Act.put, List.setIfInBounds_toArray, List.set_cons_zero, List.set_cons_succ]
        refine wpAnyH_take (i := 15) (oi := _) (v := ?_) (by simp only [List.getElem?_toArray, List.getElem?_cons_succ, List.getElem?_cons_zero]; rfl) (by kernel_rfl) (by kernel_rfl) (by kernel_rfl) (by exact fun _ _ _ h => h) (Or.inl ⟨by rfl, ?hya15⟩) (by assumption) ?rea15
        case hya15 => (rintro u ⟨s0, s1, s2, s3, s4, s5, s6, -⟩; go_simp <;> with_reducible rfl)
        try simp only [Act.put, List.setIfInBounds_toArray, List.set_cons_zero, List.set_cons_succ]
        refine wpAnyH_take (i := 16) (oi := _) (v := ?_) (by simp only [List.getElem?_toArray, List.getElem?_cons_succ, List.getElem?_cons_zero]; rfl) (by kernel_rfl) (by kernel_rfl) (by kernel_rfl) (by exact fun _ _ _ h => h) (Or.inl ⟨by rfl, ?hya16⟩) (by assumption) ?rea16
        case hya16 => (rintro u ⟨s0, s1, s2, s3, s4, s5, s6, -⟩; go_simp <;> with_reducible rfl)
        try simp only [Act.put, List.setIfInBounds_toArray, List.set_cons_zero, List.set_cons_succ]
        refine wpAnyH_take (i := 17) (oi := _) (v := ?_) (by simp only [List.getElem?_toArray, List.getElem?_cons_succ, List.getElem?_cons_zero]; rfl) (by kernel_rfl) (by kernel_rfl) (by kernel_rfl) (by exact fun _ _ _ h => h) (Or.inl ⟨by rfl, ?hya17⟩) (by assumption) ?rea17
        case hya17 => (rintro u ⟨s0, s1, s2, s3, s4, s5, s6, -⟩; go_simp <;> with_reducible rfl)
        try simp only [Act.put, List.setIfInBounds_toArray, List.set_cons_zero, List.set_cons_succ]
        refine wpAnyH_take (i := 18) (oi := _) (v := ?_) (by simp only [List.getElem?_toArray, List.getElem?_cons_succ, List.getElem?_cons_zero]; rfl) (by kernel_rfl) (by kernel_rfl) (by kernel_rfl) (by exact fun _ _ _ h => h) (Or.inl ⟨by rfl, ?hya18⟩) (by assumption) ?rea18
        case hya18 => (rintro u ⟨s0, s1, s2, s3, s4, s5, s6, -⟩; go_simp <;> with_reducible rfl)
        try simp only [Act.put, List.setIfInBounds_toArray, List.set_cons_zero, List.set_cons_succ]
        refine wpAnyH_take (i := 19) (oi := _) (v := ?_) (by simp only [List.getElem?_toArray, List.getElem?_cons_succ, List.getElem?_cons_zero]; rfl) (by kernel_rfl) (by kernel_rfl) (by kernel_rfl) (by exact fun _ _ _ h => h) (Or.inl ⟨by rfl, ?hya19⟩) (by assumption) ?rea19
        case hya19 => (rintro u ⟨s0, s1, s2, s3, s4, s5, s6, -⟩; go_simp <;> with_reducible rfl)
        try simp only [Act.put, List.setIfInBounds_toArray, List.set_cons_zero, List.set_cons_succ]
        refine wpAnyH_take (i := 20) (oi := _) (v := ?_) (by simp only [List.getElem?_toArray, List.getElem?_cons_succ, List.getElem?_cons_zero]; rfl) (by kernel_rfl) (by kernel_rfl) (by kernel_rfl) (by exact fun _ _ _ h => h) (Or.inl ⟨by rfl, ?hya20⟩) (by assumption) ?rea20
        case hya20 => (rintro u ⟨s0, s1, s2, s3, s4, s5, s6, -⟩; go_simp <;> with_reducible rfl)
        try simp only [Act.put, List.setIfInBounds_toArray, List.set_cons_zero, List.set_cons_succ]
        refine wpAnyH_take (i := 21) (oi := _) (v := ?_) (by simp only [List.getElem?_toArray, List.getElem?_cons_succ, List.getElem?_cons_zero]; rfl) (by kernel_rfl) (by kernel_rfl) (by kernel_rfl) (by exact fun _ _ _ h => h) (Or.inl ⟨by rfl, ?hya21⟩) (by assumption) ?rea21
        case hya21 => (rintro u ⟨s0, s1, s2, s3, s4, s5, s6, -⟩; go_simp <;> with_reducible rfl)
        try simp only [Act.put, List.setIfInBounds_toArray, List.set_cons_zero, List.set_cons_succ]
        refine wpAnyH_take (i := 23) (oi := _) (v := ?_) (by simp only [List.getElem?_toArray, List.getElem?_cons_succ, List.getElem?_cons_zero]; rfl) (by kernel_rfl) (by kernel_rfl) (by kernel_rfl) (by exact fun _ _ _ h => h) (Or.inl ⟨by rfl, ?hya23⟩) (by assumption) ?rea23
        case hya23 => (rintro u ⟨s0, s1, s2, s3, s4, s5, s6, -⟩; go_simp <;> with_reducible rfl)
        try simp only [Act.put, List.setIfInBounds_toArray, List.set_cons_zero, List.set_cons_succ]
        refine wpAnyH_take (i := 24) (oi := _) (v := ?_) (by simp only [List.getElem?_toArray, List.getElem?_cons_succ, List.getElem?_cons_zero]; rfl) (by kernel_rfl) (by kernel_rfl) (by kernel_rfl) (by exact fun _ _ _ h => h) (Or.inl ⟨by rfl, ?hya24⟩) (by assumption) ?rea24
        case hya24 => (rintro u ⟨s0, s1, s2, s3, s4, s5, s6, -⟩; go_simp <;> with_reducible rfl)
        try simp only [Act.put, List.setIfInBounds_toArray, List.set_cons_zero, List.set_cons_succ]
        refine wpAnyH_take (i := 25) (oi := _) (v := ?_) (by simp only [List.getElem?_toArray, List.getElem?_cons_succ, List.getElem?_cons_zero]; rfl) (by kernel_rfl) (by kernel_rfl) (by kernel_rfl) (by exact fun _ _ _ h => h) (Or.inl ⟨by rfl, ?hya25⟩) (by assumption) ?rea25
        case hya25 => (rintro u ⟨s0, s1, s2, s3, s4, s5, s6, -⟩; go_simp <;> with_reducible rfl)
        try simp only [Act.put, List.setIfInBounds_toArray, List.set_cons_zero, List.set_cons_succ]
        refine wpAnyH_ready (rs := [22]) (by kernel_rfl) (by simp) ?_
        refine AllReadyH.cons (o := _) (by simp only [List.getElem?_toArray, List.getElem?_cons_succ, List.getElem?_cons_zero]; rfl) (fun K hK => ?_) AllReadyH.nil
        go_simp
        refine (St.holds rdx_lcl (Sq.of1 (by assumption)).1 nn).mono ?_
        rintro e w10 ⟨rfl, hb, -⟩
        rw [← HHH.out]
        have HX := Lib.hid (Sq.below (Sq.of1 (by assumption)) hb)
        clear hb hHeld
        go_simp
        refine hK.out _ _ HX.out.one (fun hHeld => ?_)
        clear hK K HX
        try simp only [Act.put, List.setIfInBounds_toArray, List.set_cons_zero, List.set_cons_succ]
        refine wpAnyH_ready (rs := [26]) (by kernel_rfl) (by simp) ?_
        refine AllReadyH.cons (o := _) (by simp only [List.getElem?_toArray, List.getElem?_cons_succ, List.getElem?_cons_zero]; rfl) (fun K hK => ?_) AllReadyH.nil
        go_simp
        refine (HH.out _ (Sq.of1 (by assumption)).1.ref2).mono ?_
        rintro e w' ⟨rfl, rfl⟩
        go_simp
        refine hK.out _ _ hHeld (fun hHeld2 => ?_)
        clear hK K hHeld2
        try simp only [Act.put, List.setIfInBounds_toArray, List.set_cons_zero, List.set_cons_succ]
        refine wpAnyH_take (i := 27) (oi := _) (v := ?_) (by simp only [List.getElem?_toArray, List.getElem?_cons_succ, List.getElem?_cons_zero]; rfl) (by kernel_rfl) (by kernel_rfl) (by kernel_rfl) (by exact fun _ _ _ h => h) (Or.inl ⟨by rfl, ?hya27⟩) (by assumption) ?rea27
        case hya27 => (rintro u ⟨s0, s1, s2, s3, s4, s5, s6, -⟩; go_simp <;> with_reducible rfl)
        try simp only [Act.put, List.setIfInBounds_toArray, List.set_cons_zero, List.set_cons_succ]
        refine wpAnyH_take (i := 28) (oi := _) (v := ?_) (by simp only [List.getElem?_toArray, List.getElem?_cons_succ, List.getElem?_cons_zero]; rfl) (by kernel_rfl) (by kernel_rfl) (by kernel_rfl) (by exact fun _ _ _ h => h) (Or.inl ⟨by rfl, ?hya28⟩) (by assumption) ?rea28
        case hya28 => (rintro u ⟨s0, s1, s2, s3, s4, s5, s6, -⟩; go_simp <;> with_reducible rfl)
        try simp only [Act.put, List.setIfInBounds_toArray, List.set_cons_zero, List.set_cons_succ]
        refine wpAnyH_take (i := 29) (oi := _) (v := ?_) (by simp only [List.getElem?_toArray, List.getElem?_cons_succ, List.getElem?_cons_zero]; rfl) (by kernel_rfl) (by kernel_rfl) (by kernel_rfl) (by exact fun _ _ _ h => h) (Or.inl ⟨by rfl, ?hya29⟩) (by assumption) ?rea29
        case hya29 => (rintro u ⟨s0, s1, s2, s3, s4, s5, s6, -⟩; go_simp <;> with_reducible rfl)
        try simp only [Act.put, List.setIfInBounds_toArray, List.set_cons_zero, List.set_cons_succ]
        refine wpAnyH_take (i := 30) (oi := _) (v := ?_) (by simp only [List.getElem?_toArray, List.getElem?_cons_succ, List.getElem?_cons_zero]; rfl) (by kernel_rfl) (by kernel_rfl) (by kernel_rfl) (by exact fun _ _ _ h => h) (Or.inl ⟨by rfl, ?hya30⟩) (by assumption) ?rea30
        case hya30 => (rintro u ⟨s0, s1, s2, s3, s4, s5, s6, -⟩; go_simp <;> with_reducible rfl)
        try simp only [Act.put, List.setIfInBounds_toArray, List.set_cons_zero, List.set_cons_succ]
        refine wpAnyH_take (i := 31) (oi := _) (v := ?_) (by simp only [List.getElem?_toArray, List.getElem?_cons_succ, List.getElem?_cons_zero]; rfl) (by kernel_rfl) (by kernel_rfl) (by kernel_rfl) (by exact fun _ _ _ h => h) (Or.inl ⟨by rfl, ?hya31⟩) (by assumption) ?rea31
        case hya31 => (rintro u ⟨s0, s1, s2, s3, s4, s5, s6, -⟩; go_simp <;> with_reducible rfl)
        try simp only [Act.put, List.setIfInBounds_toArray, List.set_cons_zero, List.set_cons_succ]
        refine wpAnyH_take (i := 32) (oi := _) (v := ?_) (by simp only [List.getElem?_toArray, List.getElem?_cons_succ, List.getElem?_cons_zero]; rfl) (by kernel_rfl) (by kernel_rfl) (by kernel_rfl) (by exact fun _ _ _ h => h) (Or.inl ⟨by rfl, ?hya32⟩) (by assumption) ?rea32
        case hya32 => (rintro u ⟨s0, s1, s2, s3, s4, s5, s6, -⟩; go_simp <;> with_reducible rfl)
        try simp only [Act.put, List.setIfInBounds_toArray, List.set_cons_zero, List.set_cons_succ]
        refine wpAnyH_take (i := 33) (oi := _) (v := ?_) (by simp only [List.getElem?_toArray, List.getElem?_cons_succ, List.getElem?_cons_zero]; rfl) (by kernel_rfl) (by kernel_rfl) (by kernel_rfl) (by exact fun _ _ _ h => h) (Or.inl ⟨by rfl, ?hya33⟩) (by assumption) ?rea33
        case hya33 => (rintro u ⟨s0, s1, s2, s3, s4, s5, s6, -⟩; go_simp <;> with_reducible rfl)
        try simp only [Act.put, List.setIfInBounds_toArray, List.set_cons_zero, List.set_cons_succ]
        refine wpAnyH_take (i := 34) (oi := _) (v := ?_) (by simp only [List.getElem?_toArray, List.getElem?_cons_succ, List.getElem?_cons_zero]; rfl) (by kernel_rfl) (by kernel_rfl) (by kernel_rfl) (by exact fun _ _ _ h => h) (Or.inl ⟨by rfl, ?hya34⟩) (by assumption) ?rea34
        case hya34 => (rintro u ⟨s0, s1, s2, s3, s4, s5, s6, -⟩; go_simp <;> with_reducible rfl)
        try simp only [Act.put, List.setIfInBounds_toArray, List.set_cons_zero, List.set_cons_succ]
        refine wpAnyH_ready (rs := [35]) (by kernel_rfl) (by simp) ?_
        refine AllReadyH.cons (o := _) (by simp only [List.getElem?_toArray, List.getElem?_cons_succ, List.getElem?_cons_zero]; rfl) (fun K hK => ?_) AllReadyH.nil
        go_simp
        refine (HP.out _ (Sq.of1 (by assumption)).1.ref2).mono ?_
        rintro e w' ⟨rfl, rfl⟩
        go_simp
        refine hK.out _ _ hHeld (fun hHeld2 => ?_)
        clear hK K hHeld2
        try simp only [Act.put, List.setIfInBounds_toArray, List.set_cons_zero, List.set_cons_succ]
        refine wpAnyH_take (i := 36) (oi := _) (v := ?_) (by simp only [List.getElem?_toArray, List.getElem?_cons_succ, List.getElem?_cons_zero]; rfl) (by kernel_rfl) (by kernel_rfl) (by kernel_rfl) (by exact fun _ _ _ h => h) (Or.inl ⟨by rfl, ?hya36⟩) (by assumption) ?rea36
        case hya36 => (rintro u ⟨s0, s1, s2, s3, s4, s5, s6, -⟩; go_simp <;> with_reducible rfl)
        try simp only [Act.put, List.setIfInBounds_toArray, List.set_cons_zero, List.set_cons_succ]
        refine wpAnyH_take (i := 37) (oi := _) (v := ?_) (by simp only [List.getElem?_toArray, List.getElem?_cons_succ, List.getElem?_cons_zero]; rfl) (by kernel_rfl) (by kernel_rfl) (by kernel_rfl) (by exact fun _ _ _ h => h) (Or.inl ⟨by rfl, ?hya37⟩) (by assumption) ?rea37
        case hya37 => (rintro u ⟨s0, s1, s2, s3, s4, s5, s6, -⟩; go_simp <;> with_reducible rfl)
        try simp only [Act.put, List.setIfInBounds_toArray, List.set_cons_zero, List.set_cons_succ]
        refine wpAnyH_take (i := 38) (oi := _) (v := ?_) (by simp only [List.getElem?_toArray, List.getElem?_cons_succ, List.getElem?_cons_zero]; rfl) (by kernel_rfl) (by kernel_rfl) (by kernel_rfl) (by exact fun _ _ _ h => h) (Or.inl ⟨by rfl, ?hya38⟩) (by assumption) ?rea38
        case hya38 => (rintro u ⟨s0, s1, s2, s3, s4, s5, s6, -⟩; go_simp <;> with_reducible rfl)
        try simp only [Act.put, List.setIfInBounds_toArray, List.set_cons_zero, List.set_cons_succ]
        refine wpAnyH_take (i := 39) (oi := _) (v := ?_) (by simp only [List.getElem?_toArray, List.getElem?_cons_succ, List.getElem?_cons_zero]; rfl) (by kernel_rfl) (by kernel_rfl) (by kernel_rfl) (by exact fun _ _ _ h => h) (Or.inl ⟨by rfl, ?hya39⟩) (by assumption) ?rea39
        case hya39 => (rintro u ⟨s0, s1, s2, s3, s4, s5, s6, -⟩; go_simp <;> with_reducible rfl)
        try simp only [Act.put, List.setIfInBounds_toArray, List.set_cons_zero, List.set_cons_succ]
        refine wpAnyH_take (i := 40) (oi := _) (v := ?_) (by simp only [List.getElem?_toArray, List.getElem?_cons_succ, List.getElem?_cons_zero]; rfl) (by kernel_rfl) (by kernel_rfl) (by kernel_rfl) (by exact fun _ _ _ h => h) (Or.inl ⟨by rfl, ?hya40⟩) (by assumption) ?rea40
        case hya40 => (rintro u ⟨s0, s1, s2, s3, s4, s5, s6, -⟩; go_simp <;> with_reducible rfl)
        try simp only [Act.put, List.setIfInBounds_toArray, List.set_cons_zero, List.set_cons_succ]
        refine wpAnyH_take (i := 41) (oi := _) (v := ?_) (by simp only [List.getElem?_toArray, List.getElem?_cons_succ, List.getElem?_cons_zero]; rfl) (by kernel_rfl) (by kernel_rfl) (by kernel_rfl) (by exact fun _ _ _ h => h) (Or.inl ⟨by rfl, ?hya41⟩) (by assumption) ?rea41
        case hya41 => (rintro u ⟨s0, s1, s2, s3, s4, s5, s6, -⟩; go_simp <;> with_reducible rfl)
        try simp only [Act.put, List.setIfInBounds_toArray, List.set_cons_zero, List.set_cons_succ]
        refine wpAnyH_take (i := 42) (oi := _) (v := undef) (by simp only [List.getElem?_toArray, List.getElem?_cons_succ, List.getElem?_cons_zero]; rfl) (by kernel_rfl) (by kernel_rfl) (by kernel_rfl) (by exact fun _ _ _ h => h) (Or.inr ⟨by rfl, rfl⟩) (by assumption) ?_
        try simp only [Act.put, List.setIfInBounds_toArray, List.set_cons_zero, List.set_cons_succ]
        refine wpAnyH_take (i := 43) (oi := _) (v := undef) (by simp only [List.getElem?_toArray, List.getElem?_cons_succ, List.getElem?_cons_zero]; rfl) (by kernel_rfl) (by kernel_rfl) (by kernel_rfl) (by exact fun _ _ _ h => h) (Or.inr ⟨by rfl, rfl⟩) (by assumption) ?_
        try simp only [Act.put, List.setIfInBounds_toArray, List.set_cons_zero, List.set_cons_succ]
        refine wpAnyH_take (i := 44) (oi := _) (v := undef) (by simp only [List.getElem?_toArray, List.getElem?_cons_succ, List.getElem?_cons_zero]; rfl) (by kernel_rfl) (by kernel_rfl) (by kernel_rfl) (by exact fun _ _ _ h => h) (Or.inr ⟨by rfl, rfl⟩) (by assumption) ?_
        try simp only [Act.put, List.setIfInBounds_toArray, List.set_cons_zero, List.set_cons_succ]
        refine wpAnyH_take (i := 45) (oi := _) (v := undef) (by simp only [List.getElem?_toArray, List.getElem?_cons_succ, List.getElem?_cons_zero]; rfl) (by kernel_rfl) (by kernel_rfl) (by kernel_rfl) (by exact fun _ _ _ h => h) (Or.inr ⟨by rfl, rfl⟩) (by assumption) ?_
        try simp only [Act.put, List.setIfInBounds_toArray, List.set_cons_zero, List.set_cons_succ]
        refine wpAnyH_take (i := 46) (oi := _) (v := undef) (by simp only [List.getElem?_toArray, List.getElem?_cons_succ, List.getElem?_cons_zero]; rfl) (by kernel_rfl) (by kernel_rfl) (by kernel_rfl) (by exact fun _ _ _ h => h) (Or.inr ⟨by rfl, rfl⟩) (by assumption) ?_
        try simp only [Act.put, List.setIfInBounds_toArray, List.set_cons_zero, List.set_cons_succ]
        refine wpAnyH_take (i := 47) (oi := _) (v := undef) (by simp only [List.getElem?_toArray, List.getElem?_cons_succ, List.getElem?_cons_zero]; rfl) (by kernel_rfl) (by kernel_rfl) (by kernel_rfl) (by exact fun _ _ _ h => h) (Or.inr ⟨by rfl, rfl⟩) (by assumption) ?_
        try simp only [Act.put, List.setIfInBounds_toArray, List.set_cons_zero, List.set_cons_succ]
        refine wpAnyH_take (i := 48) (oi := _) (v := undef) (by simp only [List.getElem?_toArray, List.getElem?_cons_succ, List.getElem?_cons_zero]; rfl) (by kernel_rfl) (by kernel_rfl) (by kernel_rfl) (by exact fun _ _ _ h => h) (Or.inr ⟨by rfl, rfl⟩) (by assumption) ?_
        try simp only [Act.put, List.setIfInBounds_toArray, List.set_cons_zero, List.set_cons_succ]
        refine wpAnyH_take (i := 49) (oi := _) (v := undef) (by simp only [List.getElem?_toArray, List.getElem?_cons_succ, List.getElem?_cons_zero]; rfl) (by kernel_rfl) (by kernel_rfl) (by kernel_rfl) (by exact fun _ _ _ h => h) (Or.inr ⟨by rfl, rfl⟩) (by assumption) ?_
        try simp only [Act.put, List.setIfInBounds_toArray, List.set_cons_zero, List.set_cons_succ]
        refine wpAnyH_take (i := 50) (oi := _) (v := undef) (by simp only [List.getElem?_toArray, List.getElem?_cons_succ, List.getElem?_cons_zero]; rfl) (by kernel_rfl) (by kernel_rfl) (by kernel_rfl) (by exact fun _ _ _ h => h) (Or.inr ⟨by rfl, rfl⟩) (by assumption) ?_
        try simp only [Act.put, List.setIfInBounds_toArray, List.set_cons_zero, List.set_cons_succ]
        refine wpAnyH_take (i := 51) (oi := _) (v := undef) (by simp only [List.getElem?_toArray, List.getElem?_cons_succ, List.getElem?_cons_zero]; rfl) (by kernel_rfl) (by kernel_rfl) (by kernel_rfl) (by exact fun _ _ _ h => h) (Or.inr ⟨by rfl, rfl⟩) (by assumption) ?_
        try simp only [Act.put, List.setIfInBounds_toArray, List.set_cons_zero, List.set_cons_succ]
        refine wpAnyH_take (i := 52) (oi := _) (v := undef) (by simp only [List.getElem?_toArray, List.getElem?_cons_succ, List.getElem?_cons_zero]; rfl) (by kernel_rfl) (by kernel_rfl) (by kernel_rfl) (by exact fun _ _ _ h => h) (Or.inr ⟨by rfl, rfl⟩) (by assumption) ?_
        try simp only [Act.put, List.setIfInBounds_toArray, List.set_cons_zero, List.set_cons_succ]
        refine wpAnyH_take (i := 53) (oi := _) (v := ?_) (by simp only [List.getElem?_toArray, List.getElem?_cons_succ, List.getElem?_cons_zero]; rfl) (by kernel_rfl) (by kernel_rfl) (by kernel_rfl) (by exact fun _ _ _ h => h) (Or.inl ⟨by rfl, ?hya53⟩) (by assumption) ?rea53
        case hya53 => (rintro u ⟨s0, s1, s2, s3, s4, s5, s6, -⟩; go_simp <;> with_reducible rfl)
        try simp only [Act.put, List.setIfInBounds_toArray, List.set_cons_zero, List.set_cons_succ]
        refine wpAnyH_take (i := 54) (oi := _) (v := ?_) (by simp only [List.getElem?_toArray, List.getElem?_cons_succ, List.getElem?_cons_zero]; rfl) (by kernel_rfl) (by kernel_rfl) (by kernel_rfl) (by exact fun _ _ _ h => h) (Or.inl ⟨by rfl, ?hya54⟩) (by assumption) ?rea54
        case hya54 => (rintro u ⟨s0, s1, s2, s3, s4, s5, s6, -⟩; go_simp <;> with_reducible rfl)
        try simp only [Act.put, List.setIfInBounds_toArray, List.set_cons_zero, List.set_cons_succ]
        refine wpAnyH_take (i := 55) (oi := _) (v := ?_) (by simp only [List.getElem?_toArray, List.getElem?_cons_succ, List.getElem?_cons_zero]; rfl) (by kernel_rfl) (by kernel_rfl) (by kernel_rfl) (by exact fun _ _ _ h => h) (Or.inl ⟨by rfl, ?hya55⟩) (by assumption) ?rea55
        case hya55 => (rintro u ⟨s0, s1, s2, s3, s4, s5, s6, -⟩; go_simp <;> with_reducible rfl)
        try simp only [Act.put, List.setIfInBounds_toArray, List.set_cons_zero, List.set_cons_succ]
        refine wpAnyH_take (i := 56) (oi := _) (v := ?_) (by simp only [List.getElem?_toArray, List.getElem?_cons_succ, List.getElem?_cons_zero]; rfl) (by kernel_rfl) (by kernel_rfl) (by kernel_rfl) (by exact fun _ _ _ h => h) (Or.inl ⟨by rfl, ?hya56⟩) (by assumption) ?rea56
        case hya56 => (rintro u ⟨s0, s1, s2, s3, s4, s5, s6, -⟩; go_simp <;> with_reducible rfl)
        try simp only [Act.put, List.setIfInBounds_toArray, List.set_cons_zero, List.set_cons_succ]
        refine wpAnyH_take (i := 57) (oi := _) (v := ?_) (by simp only [List.getElem?_toArray, List.getElem?_cons_succ, List.getElem?_cons_zero]; rfl) (by kernel_rfl) (by kernel_rfl) (by kernel_rfl) (by exact fun _ _ _ h => h) (Or.inl ⟨by rfl, ?hya57⟩) (by assumption) ?rea57
        case hya57 => (rintro u ⟨s0, s1, s2, s3, s4, s5, s6, -⟩; go_simp <;> with_reducible rfl)
        try simp only [Act.put, List.setIfInBounds_toArray, List.set_cons_zero, List.set_cons_succ]
        refine wpAnyH_take (i := 58) (oi := _) (v := ?_) (by simp only [List.getElem?_toArray, List.getElem?_cons_succ, List.getElem?_cons_zero]; rfl) (by kernel_rfl) (by kernel_rfl) (by kernel_rfl) (by exact fun _ _ _ h => h) (Or.inl ⟨by rfl, ?hya58⟩) (by assumption) ?rea58
        case hya58 => (rintro u ⟨s0, s1, s2, s3, s4, s5, s6, -⟩; go_simp <;> with_reducible rfl)
        try simp only [Act.put, List.setIfInBounds_toArray, List.set_cons_zero, List.set_cons_succ]
        refine wpAnyH_take (i := 59) (oi := _) (v := ?_) (by simp only [List.getElem?_toArray, List.getElem?_cons_succ, List.getElem?_cons_zero]; rfl) (by kernel_rfl) (by kernel_rfl) (by kernel_rfl) (by exact fun _ _ _ h => h) (Or.inl ⟨by rfl, ?hya59⟩) (by assumption) ?rea59
        case hya59 => (rintro u ⟨s0, s1, s2, s3, s4, s5, s6, -⟩; go_simp <;> with_reducible rfl)
        try simp only [Act.put, List.setIfInBounds_toArray, List.set_cons_zero, List.set_cons_succ]
        refine wpAnyH_take (i := 60) (oi := _) (v := ?_) (by simp only [List.getElem?_toArray, List.getElem?_cons_succ, List.getElem?_cons_zero]; rfl) (by kernel_rfl) (by kernel_rfl) (by kernel_rfl) (by exact fun _ _ _ h => h) (Or.inl ⟨by rfl, ?hya60⟩) (by assumption) ?rea60
        case hya60 => (rintro u ⟨s0, s1, s2, s3, s4, s5, s6, -⟩; go_simp <;> with_reducible rfl)
        try simp only [Act.put, List.setIfInBounds_toArray, List.set_cons_zero, List.set_cons_succ]
        refine wpAnyH_take (i := 61) (oi := _) (v := ?_) (by simp only [List.getElem?_toArray, List.getElem?_cons_succ, List.getElem?_cons_zero]; rfl) (by kernel_rfl) (by kernel_rfl) (by kernel_rfl) (by exact fun _ _ _ h => h) (Or.inl ⟨by rfl, ?hya61⟩) (by assumption) ?rea61
        case hya61 => (rintro u ⟨s0, s1, s2, s3, s4, s5, s6, -⟩; go_simp <;> with_reducible rfl)
        try simp only [Act.put, List.setIfInBounds_toArray, List.set_cons_zero, List.set_cons_succ]
        refine wpAnyH_take (i := 62) (oi := _) (v := ?_) (by simp only [List.getElem?_toArray, List.getElem?_cons_succ, List.getElem?_cons_zero]; rfl) (by kernel_rfl) (by kernel_rfl) (by kernel_rfl) (by exact fun _ _ _ h => h) (Or.inl ⟨by rfl, ?hya62⟩) (by assumption) ?rea62
        case hya62 => (rintro u ⟨s0, s1, s2, s3, s4, s5, s6, -⟩; go_simp <;> with_reducible rfl)
        try simp only [Act.put, List.setIfInBounds_toArray, List.set_cons_zero, List.set_cons_succ]
        refine wpAnyH_take (i := 63) (oi := _) (v := ?_) (by simp only [List.getElem?_toArray, List.getElem?_cons_succ, List.getElem?_cons_zero]; rfl) (by kernel_rfl) (by kernel_rfl) (by kernel_rfl) (by exact fun _ _ _ h => h) (Or.inl ⟨by rfl, ?hya63⟩) (by assumption) ?rea63
        case hya63 => (rintro u ⟨s0, s1, s2, s3, s4, s5, s6, -⟩; go_simp <;> with_reducible rfl)
        try simp only [Act.put, List.setIfInBounds_toArray, List.set_cons_zero, List.set_cons_succ]
        refine wpAnyH_take (i := 64) (oi := _) (v := ?_) (by simp only [List.getElem?_toArray, List.getElem?_cons_succ, List.getElem?_cons_zero]; rfl) (by kernel_rfl) (by kernel_rfl) (by kernel_rfl) (by exact fun _ _ _ h => h) (Or.inl ⟨by rfl, ?hya64⟩) (by assumption) ?rea64
        case hya64 => (rintro u ⟨s0, s1, s2, s3, s4, s5, s6, -⟩; go_simp <;> with_reducible rfl)
        try simp only [Act.put, List.setIfInBounds_toArray, List.set_cons_zero, List.set_cons_succ]
        refine wpAnyH_take (i := 65) (oi := _) (v := ?_) (by simp only [List.getElem?_toArray, List.getElem?_cons_succ, List.getElem?_cons_zero]; rfl) (by kernel_rfl) (by kernel_rfl) (by kernel_rfl) (by exact fun _ _ _ h => h) (Or.inl ⟨by rfl, ?hya65⟩) (by assumption) ?rea65
        case hya65 => (rintro u ⟨s0, s1, s2, s3, s4, s5, s6, -⟩; go_simp <;> with_reducible rfl)
        try simp only [Act.put, List.setIfInBounds_toArray, List.set_cons_zero, List.set_cons_succ]
        refine wpAnyH_take (i := 66) (oi := _) (v := ?_) (by simp only [List.getElem?_toArray, List.getElem?_cons_succ, List.getElem?_cons_zero]; rfl) (by kernel_rfl) (by kernel_rfl) (by kernel_rfl) (by exact fun _ _ _ h => h) (Or.inl ⟨by rfl, ?hya66⟩) (by assumption) ?rea66
        case hya66 => (rintro u ⟨s0, s1, s2, s3, s4, s5, s6, -⟩; go_simp <;> with_reducible rfl)
        try simp only [Act.put, List.setIfInBounds_toArray, List.set_cons_zero, List.set_cons_succ]
        refine wpAnyH_done (by kernel_rfl) ?_ _
        go_wp2
        go_roundw
        case rel => exact ⟨j + 1, t2, by omega, by go_num, HT2.out, (Sq.of1 hHeld).1.noact⟩
        case measure => simp [intOf]; omega
      · obtain ⟨qq, rfl, hqq⟩ := has_nat hb
        have e1 : labelA t2 (qq : Int) = ((t2.lab qq : Int), 0) := by simp [labelA, hb]
        rw [hb] at HP
        rw [e1]
        clear e1 hb
        have hq2 : (qq : Int) < (t2.n : Int) := by omega
        go_wp2_with fail
        simp only [List.append]
        refine wp_region_held_drew (S := fun u => u.cell? ⟨r2, qq * 25, none⟩ = some (.int .u16 (t2.lab qq : Int)) ∧ u.cell? ⟨g, 1, none⟩ = some (.int .i64 (qq : Int)) ∧ u.cell? ⟨g, 3, none⟩ = some (.int .i64 nn) ∧ u.cell? ⟨gx, 0, none⟩ = some (.int .i64 x1) ∧ u.cell? ⟨gx, 1, none⟩ = some (.int .i64 x2) ∧ u.cell? ⟨gy, 0, none⟩ = some (.int .i64 x1) ∧ u.cell? ⟨gy, 1, none⟩ = some (.int .i64 x2) ∧ u.cell? ⟨b2, 0, none⟩ = some (.slice (some ⟨r2, 0, none⟩) t2.n t2.n) ∧ Sq w b b2 r2 g gx gy t2 ⟨k, (qq : Int), fd, nn, la⟩ x1 x2 u) (by kernel_rfl) (HQ.out.drew.two hqq) (fun hHeld => ?_)
        refine wpAnyH_take (i := 0) (oi := _) (v := ?_) (by simp only [List.getElem?_toArray, List.getElem?_cons_zero]; rfl) (by kernel_rfl) (by kernel_rfl) (by kernel_rfl) (by exact fun _ _ _ h => h) (Or.inl ⟨by rfl, ?hyb0⟩) (by assumption) ?reb0
        case hyb0 => (rintro u ⟨s0, s1, s2, s3, s4, s5, s6, s7, -⟩; go_simp <;> with_reducible rfl)
        try simp only [Act.put, List.setIfInBounds_toArray, List.set_cons_zero, List.set_cons_succ]
        refine wpAnyH_take (i := 1) (oi := _) (v := ?_) (by simp only [List.getElem?_toArray, List.getElem?_cons_succ, List.getElem?_cons_zero]; rfl) (by kernel_rfl) (by kernel_rfl) (by kernel_rfl) (by exact fun _ _ _ h => h) (Or.inl ⟨by rfl, ?hyb1⟩) (by assumption) ?reb1
        case hyb1 => (rintro u ⟨s0, s1, s2, s3, s4, s5, s6, s7, -⟩; go_simp <;> with_reducible rfl)
        try simp only [Act.put, List.setIfInBounds_toArray, List.set_cons_zero, List.set_cons_succ]
        refine wpAnyH_take (i := 2) (oi := _) (v := ?_) (by simp only [List.getElem?_toArray, List.getElem?_cons_succ, List.getElem?_cons_zero]; rfl) (by kernel_rfl) (by kernel_rfl) (by kernel_rfl) (by exact fun _ _ _ h => h) (Or.inl ⟨by rfl, ?hyb2⟩) (by assumption) ?reb2
        case hyb2 => (rintro u ⟨s0, s1, s2, s3, s4, s5, s6, s7, -⟩; go_simp <;> with_reducible rfl)
        try simp only [Act.put, List.setIfInBounds_toArray, List.set_cons_zero, List.set_cons_succ]
        refine wpAnyH_take (i := 3) (oi := _) (v := ?_) (by simp only [List.getElem?_toArray, List.getElem?_cons_succ, List.getElem?_cons_zero]; rfl) (by kernel_rfl) (by kernel_rfl) (by kernel_rfl) (by exact fun _ _ _ h => h) (Or.inl ⟨by rfl, ?hyb3⟩) (by assumption) ?reb3
        case hyb3 => (rintro u ⟨s0, s1, s2, s3, s4, s5, s6, s7, -⟩; go_simp <;> with_reducible rfl)
        try simp only [Act.put, List.setIfInBounds_toArray, List.set_cons_zero, List.set_cons_succ]
        refine wpAnyH_take (i := 4) (oi := _) (v := ?_) (by simp only [List.getElem?_toArray, List.getElem?_cons_succ, List.getElem?_cons_zero]; rfl) (by kernel_rfl) (by kernel_rfl) (by kernel_rfl) (by exact fun _ _ _ h => h) (Or.inl ⟨by rfl, ?hyb4⟩) (by assumption) ?reb4
        case hyb4 => (rintro u ⟨s0, s1, s2, s3, s4, s5, s6, s7, -⟩; go_simp <;> with_reducible rfl)
        try simp only [Act.put, List.setIfInBounds_toArray, List.set_cons_zero, List.set_cons_succ]
        refine wpAnyH_take (i := 5) (oi := _) (v := ?_) (by simp only [List.getElem?_toArray, List.getElem?_cons_succ, List.getElem?_cons_zero]; rfl) (by kernel_rfl) (by kernel_rfl) (by kernel_rfl) (by exact fun _ _ _ h => h) (Or.inl ⟨by rfl, ?hyb5⟩) (by assumption) ?reb5
        case hyb5 => (rintro u ⟨s0, s1, s2, s3, s4, s5, s6, s7, -⟩; go_simp <;> with_reducible rfl)
        try simp only [Act.put, List.setIfInBounds_toArray, List.set_cons_zero, List.set_cons_succ]
        refine wpAnyH_take (i := 6) (oi := _) (v := ?_) (by simp only [List.getElem?_toArray, List.getElem?_cons_succ, List.getElem?_cons_zero]; rfl) (by kernel_rfl) (by kernel_rfl) (by kernel_rfl) (by exact fun _ _ _ h => h) (Or.inl ⟨by rfl, ?hyb6⟩) (by assumption) ?reb6
        case hyb6 => (rintro u ⟨s0, s1, s2, s3, s4, s5, s6, s7, -⟩; go_simp <;> with_reducible rfl)
        try simp only [Act.put, List.setIfInBounds_toArray, List.set_cons_zero, List.set_cons_succ]
        refine wpAnyH_take (i := 7) (oi := _) (v := ?_) (by simp only [List.getElem?_toArray, List.getElem?_cons_succ, List.getElem?_cons_zero]; rfl) (by kernel_rfl) (by kernel_rfl) (by kernel_rfl) (by exact fun _ _ _ h => h) (Or.inl ⟨by rfl, ?hyb7⟩) (by assumption) ?reb7
        case hyb7 => (rintro u ⟨s0, s1, s2, s3, s4, s5, s6, s7, -⟩; go_simp <;> with_reducible rfl)
        try simp only [Act.put, List.setIfInBounds_toArray, List.set_cons_zero, List.set_cons_succ]
        refine wpAnyH_take (i := 8) (oi := _) (v := ?_) (by simp only [List.getElem?_toArray, List.getElem?_cons_succ, List.getElem?_cons_zero]; rfl) (by kernel_rfl) (by kernel_rfl) (by kernel_rfl) (by exact fun _ _ _ h => h) (Or.inl ⟨by rfl, ?hyb8⟩) (by assumption) ?reb8
        case hyb8 => (rintro u ⟨s0, s1, s2, s3, s4, s5, s6, s7, -⟩; go_simp <;> with_reducible rfl)
        try simp only [Act.put, List.setIfInBounds_toArray, List.set_cons_zero, List.set_cons_succ]
        refine wpAnyH_take (i := 9) (oi := _) (v := ?_) (by simp only [List.getElem?_toArray, List.getElem?_cons_succ, List.getElem?_cons_zero]; rfl) (by kernel_rfl) (by kernel_rfl) (by kernel_rfl) (by exact fun _ _ _ h => h) (Or.inl ⟨by rfl, ?hyb9⟩) (by assumption) ?reb9
        case hyb9 => (rintro u ⟨s0, s1, s2, s3, s4, s5, s6, s7, -⟩; go_simp <;> with_reducible rfl)
        try simp only [Act.put, List.setIfInBounds_toArray, List.set_cons_zero, List.set_cons_succ]
        refine wpAnyH_take (i := 10) (oi := _) (v := ?_) (by simp only [List.getElem?_toArray, List.getElem?_cons_succ, List.getElem?_cons_zero]; rfl) (by kernel_rfl) (by kernel_rfl) (by kernel_rfl) (by exact fun _ _ _ h => h) (Or.inl ⟨by rfl, ?hyb10⟩) (by assumption) ?reb10
        case hyb10 => (rintro u ⟨s0, s1, s2, s3, s4, s5, s6, s7, -⟩; go_simp <;> with_reducible rfl)
        try simp only [Act.put, List.setIfInBounds_toArray, List.set_cons_zero, List.set_cons_succ]
        refine wpAnyH_take (i := 11) (oi := _) (v := ?_) (by simp only [List.getElem?_toArray, List.getElem?_cons_succ, List.getElem?_cons_zero]; rfl) (by kernel_rfl) (by kernel_rfl) (by kernel_rfl) (by exact fun _ _ _ h => h) (Or.inl ⟨by rfl, ?hyb11⟩) (by assumption) ?reb11
        case hyb11 => (rintro u ⟨s0, s1, s2, s3, s4, s5, s6, s7, -⟩; go_simp <;> with_reducible rfl)
        try simp only [Act.put, List.setIfInBounds_toArray, List.set_cons_zero, List.set_cons_succ]
        refine wpAnyH_take (i := 12) (oi := _) (v := ?_) (by simp only [List.getElem?_toArray, List.getElem?_cons_succ, List.getElem?_cons_zero]; rfl) (by kernel_rfl) (by kernel_rfl) (by kernel_rfl) (by exact fun _ _ _ h => h) (Or.inl ⟨by rfl, ?hyb12⟩) (by assumption) ?reb12
        case hyb12 => (rintro u ⟨s0, s1, s2, s3, s4, s5, s6, s7, -⟩; go_simp <;> with_reducible rfl)
        try simp only [Act.put, List.setIfInBounds_toArray, List.set_cons_zero, List.set_cons_succ]
        refine wpAnyH_take (i := 13) (oi := _) (v := ?_) (by simp only [List.getElem?_toArray, List.getElem?_cons_succ, List.getElem?_cons_zero]; rfl) (by kernel_rfl) (by kernel_rfl) (by kernel_rfl) (by exact fun _ _ _ h => h) (Or.inl ⟨by rfl, ?hyb13⟩) (by assumption) ?reb13
        case hyb13 => (rintro u ⟨s0, s1, s2, s3, s4, s5, s6, s7, -⟩; go_simp <;> with_reducible rfl)
        try simp only [Act.put, List.setIfInBounds_toArray, List.set_cons_zero, List.set_cons_succ]
        refine wpAnyH_take (i := 14) (oi := _) (v := ?_) (by simp only [List.getElem?_toArray, List.getElem?_cons_succ, List.getElem?_cons_zero]; rfl) (by kernel_rfl) (by kernel_rfl) (by kernel_rfl) (by exact fun _ _ _ h => h) (Or.inl ⟨by rfl, ?hyb14⟩) (by assumption) ?reb14
        case hyb14 => (rintro u ⟨s0, s1, s2, s3, s4, s5, s6, s7, -⟩; go_simp <;> with_reducible rfl)
        try simp only [Act.put, List.setIfInBounds_toArray, List.set_cons_zero, List.set_cons_succ]
        refine wpAnyH_take (i := 15) (oi := _) (v := ?_) (by simp only [List.getElem?_toArray, List.getElem?_cons_succ, List.getElem?_cons_zero]; rfl) (by kernel_rfl) (by kernel_rfl) (by kernel_rfl) (by exact fun _ _ _ h => h) (Or.inl ⟨by rfl, ?hyb15⟩) (by assumption) ?reb15
        case hyb15 => (rintro u ⟨s0, s1, s2, s3, s4, s5, s6, s7, -⟩; go_simp <;> with_reducible rfl)
        try simp only [Act.put, List.setIfInBounds_toArray, List.set_cons_zero, List.set_cons_succ]
        refine wpAnyH_take (i := 16) (oi := _) (v := ?_) (by simp only [List.getElem?_toArray, List.getElem?_cons_succ, List.getElem?_cons_zero]; rfl) (by kernel_rfl) (by kernel_rfl) (by kernel_rfl) (by exact fun _ _ _ h => h) (Or.inl ⟨by rfl, ?hyb16⟩) (by assumption) ?reb16
        case hyb16 => (rintro u ⟨s0, s1, s2, s3, s4, s5, s6, s7, -⟩; go_simp <;> with_reducible rfl)
        try simp only [Act.put, List.setIfInBounds_toArray, List.set_cons_zero, List.set_cons_succ]
        refine wpAnyH_take (i := 17) (oi := _) (v := ?_) (by simp only [List.getElem?_toArray, List.getElem?_cons_succ, List.getElem?_cons_zero]; rfl) (by kernel_rfl) (by kernel_rfl) (by kernel_rfl) (by exact fun _ _ _ h => h) (Or.inl ⟨by rfl, ?hyb17⟩) (by assumption) ?reb17
        case hyb17 => (rintro u ⟨s0, s1, s2, s3, s4, s5, s6, s7, -⟩; go_simp <;> with_reducible rfl)
        try simp only [Act.put, List.setIfInBounds_toArray, List.set_cons_zero, List.set_cons_succ]
        refine wpAnyH_take (i := 18) (oi := _) (v := ?_) (by simp only [List.getElem?_toArray, List.getElem?_cons_succ, List.getElem?_cons_zero]; rfl) (by kernel_rfl) (by kernel_rfl) (by kernel_rfl) (by exact fun _ _ _ h => h) (Or.inl ⟨by rfl, ?hyb18⟩) (by assumption) ?reb18
        case hyb18 => (rintro u ⟨s0, s1, s2, s3, s4, s5, s6, s7, -⟩; go_simp <;> with_reducible rfl)
        try simp only [Act.put, List.setIfInBounds_toArray, List.set_cons_zero, List.set_cons_succ]
        refine wpAnyH_take (i := 19) (oi := _) (v := ?_) (by simp only [List.getElem?_toArray, List.getElem?_cons_succ, List.getElem?_cons_zero]; rfl) (by kernel_rfl) (by kernel_rfl) (by kernel_rfl) (by exact fun _ _ _ h => h) (Or.inl ⟨by rfl, ?hyb19⟩) (by assumption) ?reb19
        case hyb19 => (rintro u ⟨s0, s1, s2, s3, s4, s5, s6, s7, -⟩; go_simp <;> with_reducible rfl)
        try simp only [Act.put, List.setIfInBounds_toArray, List.set_cons_zero, List.set_cons_succ]
        refine wpAnyH_take (i := 20) (oi := _) (v := ?_) (by simp only [List.getElem?_toArray, List.getElem?_cons_succ, List.getElem?_cons_zero]; rfl) (by kernel_rfl) (by kernel_rfl) (by kernel_rfl) (by exact fun _ _ _ h => h) (Or.inl ⟨by rfl, ?hyb20⟩) (by assumption) ?reb20
        case hyb20 => (rintro u ⟨s0, s1, s2, s3, s4, s5, s6, s7, -⟩; go_simp <;> with_reducible rfl)
        try simp only [Act.put, List.setIfInBounds_toArray, List.set_cons_zero, List.set_cons_succ]
        refine wpAnyH_take (i := 21) (oi := _) (v := ?_) (by simp only [List.getElem?_toArray, List.getElem?_cons_succ, List.getElem?_cons_zero]; rfl) (by kernel_rfl) (by kernel_rfl) (by kernel_rfl) (by exact fun _ _ _ h => h) (Or.inl ⟨by rfl, ?hyb21⟩) (by assumption) ?reb21
        case hyb21 => (rintro u ⟨s0, s1, s2, s3, s4, s5, s6, s7, -⟩; go_simp <;> with_reducible rfl)
        try simp only [Act.put, List.setIfInBounds_toArray, List.set_cons_zero, List.set_cons_succ]
        refine wpAnyH_take (i := 23) (oi := _) (v := ?_) (by simp only [List.getElem?_toArray, List.getElem?_cons_succ, List.getElem?_cons_zero]; rfl) (by kernel_rfl) (by kernel_rfl) (by kernel_rfl) (by exact fun _ _ _ h => h) (Or.inl ⟨by rfl, ?hyb23⟩) (by assumption) ?reb23
        case hyb23 => (rintro u ⟨s0, s1, s2, s3, s4, s5, s6, s7, -⟩; go_simp <;> with_reducible rfl)
        try simp only [Act.put, List.setIfInBounds_toArray, List.set_cons_zero, List.set_cons_succ]
        refine wpAnyH_take (i := 24) (oi := _) (v := ?_) (by simp only [List.getElem?_toArray, List.getElem?_cons_succ, List.getElem?_cons_zero]; rfl) (by kernel_rfl) (by kernel_rfl) (by kernel_rfl) (by exact fun _ _ _ h => h) (Or.inl ⟨by rfl, ?hyb24⟩) (by assumption) ?reb24
        case hyb24 => (rintro u ⟨s0, s1, s2, s3, s4, s5, s6, s7, -⟩; go_simp <;> with_reducible rfl)
        try simp only [Act.put, List.setIfInBounds_toArray, List.set_cons_zero, List.set_cons_succ]
        refine wpAnyH_take (i := 25) (oi := _) (v := ?_) (by simp only [List.getElem?_toArray, List.getElem?_cons_succ, List.getElem?_cons_zero]; rfl) (by kernel_rfl) (by kernel_rfl) (by kernel_rfl) (by exact fun _ _ _ h => h) (Or.inl ⟨by rfl, ?hyb25⟩) (by assumption) ?reb25
        case hyb25 => (rintro u ⟨s0, s1, s2, s3, s4, s5, s6, s7, -⟩; go_simp <;> with_reducible rfl)
        try simp only [Act.put, List.setIfInBounds_toArray, List.set_cons_zero, List.set_cons_succ]
        refine wpAnyH_ready (rs := [22]) (by kernel_rfl) (by simp) ?_
        refine AllReadyH.cons (o := _) (by simp only [List.getElem?_toArray, List.getElem?_cons_succ, List.getElem?_cons_zero]; rfl) (fun K hK => ?_) AllReadyH.nil
        go_simp
        refine (St.holds rdx_lcl (Sq.of2 (by assumption)).1 nn).mono ?_
        rintro e w10 ⟨rfl, hb, -⟩
        rw [← HHH.out]
        have HX := Lib.hid (Sq.below (Sq.of2 (by assumption)) hb)
        clear hb hHeld
        go_simp
        refine hK.out _ _ (HX.out.two hqq) (fun hHeld => ?_)
        clear hK K HX
        try simp only [Act.put, List.setIfInBounds_toArray, List.set_cons_zero, List.set_cons_succ]
        refine wpAnyH_ready (rs := [26]) (by kernel_rfl) (by simp) ?_
        refine AllReadyH.cons (o := _) (by simp only [List.getElem?_toArray, List.getElem?_cons_succ, List.getElem?_cons_zero]; rfl) (fun K hK => ?_) AllReadyH.nil
        go_simp
        refine (HH.out _ (Sq.of2 (by assumption)).1.ref2).mono ?_
        rintro e w' ⟨rfl, rfl⟩
        go_simp
        refine hK.out _ _ hHeld (fun hHeld2 => ?_)
        clear hK K hHeld2
        try simp only [Act.put, List.setIfInBounds_toArray, List.set_cons_zero, List.set_cons_succ]
        refine wpAnyH_take (i := 27) (oi := _) (v := ?_) (by simp only [List.getElem?_toArray, List.getElem?_cons_succ, List.getElem?_cons_zero]; rfl) (by kernel_rfl) (by kernel_rfl) (by kernel_rfl) (by exact fun _ _ _ h => h) (Or.inl ⟨by rfl, ?hyb27⟩) (by assumption) ?reb27
        case hyb27 => (rintro u ⟨s0, s1, s2, s3, s4, s5, s6, s7, -⟩; go_simp <;> with_reducible rfl)
        try simp only [Act.put, List.setIfInBounds_toArray, List.set_cons_zero, List.set_cons_succ]
        refine wpAnyH_take (i := 28) (oi := _) (v := ?_) (by simp only [List.getElem?_toArray, List.getElem?_cons_succ, List.getElem?_cons_zero]; rfl) (by kernel_rfl) (by kernel_rfl) (by kernel_rfl) (by exact fun _ _ _ h => h) (Or.inl ⟨by rfl, ?hyb28⟩) (by assumption) ?reb28
        case hyb28 => (rintro u ⟨s0, s1, s2, s3, s4, s5, s6, s7, -⟩; go_simp <;> with_reducible rfl)
        try simp only [Act.put, List.setIfInBounds_toArray, List.set_cons_zero, List.set_cons_succ]
        refine wpAnyH_take (i := 29) (oi := _) (v := ?_) (by simp only [List.getElem?_toArray, List.getElem?_cons_succ, List.getElem?_cons_zero]; rfl) (by kernel_rfl) (by kernel_rfl) (by kernel_rfl) (by exact fun _ _ _ h => h) (Or.inl ⟨by rfl, ?hyb29⟩) (by assumption) ?reb29
        case hyb29 => (rintro u ⟨s0, s1, s2, s3, s4, s5, s6, s7, -⟩; go_simp <;> with_reducible rfl)
        try simp only [Act.put, List.setIfInBounds_toArray, List.set_cons_zero, List.set_cons_succ]
        refine wpAnyH_take (i := 30) (oi := _) (v := ?_) (by simp only [List.getElem?_toArray, List.getElem?_cons_succ, List.getElem?_cons_zero]; rfl) (by kernel_rfl) (by kernel_rfl) (by kernel_rfl) (by exact fun _ _ _ h => h) (Or.inl ⟨by rfl, ?hyb30⟩) (by assumption) ?reb30
        case hyb30 => (rintro u ⟨s0, s1, s2, s3, s4, s5, s6, s7, -⟩; go_simp <;> with_reducible rfl)
        try simp only [Act.put, List.setIfInBounds_toArray, List.set_cons_zero, List.set_cons_succ]
        refine wpAnyH_take (i := 31) (oi := _) (v := ?_) (by simp only [List.getElem?_toArray, List.getElem?_cons_succ, List.getElem?_cons_zero]; rfl) (by kernel_rfl) (by kernel_rfl) (by kernel_rfl) (by exact fun _ _ _ h => h) (Or.inl ⟨by rfl, ?hyb31⟩) (by assumption) ?reb31
        case hyb31 => (rintro u ⟨s0, s1, s2, s3, s4, s5, s6, s7, -⟩; go_simp <;> with_reducible rfl)
        try simp only [Act.put, List.setIfInBounds_toArray, List.set_cons_zero, List.set_cons_succ]
        refine wpAnyH_take (i := 32) (oi := _) (v := ?_) (by simp only [List.getElem?_toArray, List.getElem?_cons_succ, List.getElem?_cons_zero]; rfl) (by kernel_rfl) (by kernel_rfl) (by kernel_rfl) (by exact fun _ _ _ h => h) (Or.inl ⟨by rfl, ?hyb32⟩) (by assumption) ?reb32
        case hyb32 => (rintro u ⟨s0, s1, s2, s3, s4, s5, s6, s7, -⟩; go_simp <;> with_reducible rfl)
        try simp only [Act.put, List.setIfInBounds_toArray, List.set_cons_zero, List.set_cons_succ]
        refine wpAnyH_take (i := 33) (oi := _) (v := ?_) (by simp only [List.getElem?_toArray, List.getElem?_cons_succ, List.getElem?_cons_zero]; rfl) (by kernel_rfl) (by kernel_rfl) (by kernel_rfl) (by exact fun _ _ _ h => h) (Or.inl ⟨by rfl, ?hyb33⟩) (by assumption) ?reb33
        case hyb33 => (rintro u ⟨s0, s1, s2, s3, s4, s5, s6, s7, -⟩; go_simp <;> with_reducible rfl)
        try simp only [Act.put, List.setIfInBounds_toArray, List.set_cons_zero, List.set_cons_succ]
        refine wpAnyH_take (i := 34) (oi := _) (v := ?_) (by simp only [List.getElem?_toArray, List.getElem?_cons_succ, List.getElem?_cons_zero]; rfl) (by kernel_rfl) (by kernel_rfl) (by kernel_rfl) (by exact fun _ _ _ h => h) (Or.inl ⟨by rfl, ?hyb34⟩) (by assumption) ?reb34
        case hyb34 => (rintro u ⟨s0, s1, s2, s3, s4, s5, s6, s7, -⟩; go_simp <;> with_reducible rfl)
        try simp only [Act.put, List.setIfInBounds_toArray, List.set_cons_zero, List.set_cons_succ]
        refine wpAnyH_ready (rs := [35]) (by kernel_rfl) (by simp) ?_
        refine AllReadyH.cons (o := _) (by simp only [List.getElem?_toArray, List.getElem?_cons_succ, List.getElem?_cons_zero]; rfl) (fun K hK => ?_) AllReadyH.nil
        go_simp
        refine (HP.out _ (Sq.of2 (by assumption)).1.ref2).mono ?_
        rintro e w' ⟨rfl, rfl⟩
        go_simp
        refine hK.out _ _ hHeld (fun hHeld2 => ?_)
        clear hK K hHeld2
        try simp only [Act.put, List.setIfInBounds_toArray, List.set_cons_zero, List.set_cons_succ]
        refine wpAnyH_take (i := 36) (oi := _) (v := ?_) (by simp only [List.getElem?_toArray, List.getElem?_cons_succ, List.getElem?_cons_zero]; rfl) (by kernel_rfl) (by kernel_rfl) (by kernel_rfl) (by exact fun _ _ _ h => h) (Or.inl ⟨by rfl, ?hyb36⟩) (by assumption) ?reb36
        case hyb36 => (rintro u ⟨s0, s1, s2, s3, s4, s5, s6, s7, -⟩; go_simp <;> with_reducible rfl)
        try simp only [Act.put, List.setIfInBounds_toArray, List.set_cons_zero, List.set_cons_succ]
        refine wpAnyH_take (i := 37) (oi := _) (v := ?_) (by simp only [List.getElem?_toArray, List.getElem?_cons_succ, List.getElem?_cons_zero]; rfl) (by kernel_rfl) (by kernel_rfl) (by kernel_rfl) (by exact fun _ _ _ h => h) (Or.inl ⟨by rfl, ?hyb37⟩) (by assumption) ?reb37
        case hyb37 => (rintro u ⟨s0, s1, s2, s3, s4, s5, s6, s7, -⟩; go_simp <;> with_reducible rfl)
        try simp only [Act.put, List.setIfInBounds_toArray, List.set_cons_zero, List.set_cons_succ]
        refine wpAnyH_take (i := 38) (oi := _) (v := ?_) (by simp only [List.getElem?_toArray, List.getElem?_cons_succ, List.getElem?_cons_zero]; rfl) (by kernel_rfl) (by kernel_rfl) (by kernel_rfl) (by exact fun _ _ _ h => h) (Or.inl ⟨by rfl, ?hyb38⟩) (by assumption) ?reb38
        case hyb38 => (rintro u ⟨s0, s1, s2, s3, s4, s5, s6, s7, -⟩; go_simp <;> with_reducible rfl)
        try simp only [Act.put, List.setIfInBounds_toArray, List.set_cons_zero, List.set_cons_succ]
        refine wpAnyH_take (i := 39) (oi := _) (v := ?_) (by simp only [List.getElem?_toArray, List.getElem?_cons_succ, List.getElem?_cons_zero]; rfl) (by kernel_rfl) (by kernel_rfl) (by kernel_rfl) (by exact fun _ _ _ h => h) (Or.inl ⟨by rfl, ?hyb39⟩) (by assumption) ?reb39
        case hyb39 => (rintro u ⟨s0, s1, s2, s3, s4, s5, s6, s7, -⟩; go_simp <;> with_reducible rfl)
        try simp only [Act.put, List.setIfInBounds_toArray, List.set_cons_zero, List.set_cons_succ]
        refine wpAnyH_take (i := 40) (oi := _) (v := ?_) (by simp only [List.getElem?_toArray, List.getElem?_cons_succ, List.getElem?_cons_zero]; rfl) (by kernel_rfl) (by kernel_rfl) (by kernel_rfl) (by exact fun _ _ _ h => h) (Or.inl ⟨by rfl, ?hyb40⟩) (by assumption) ?reb40
        case hyb40 => (rintro u ⟨s0, s1, s2, s3, s4, s5, s6, s7, -⟩; go_simp <;> with_reducible rfl)
        try simp only [Act.put, List.setIfInBounds_toArray, List.set_cons_zero, List.set_cons_succ]
        refine wpAnyH_take (i := 41) (oi := _) (v := ?_) (by simp only [List.getElem?_toArray, List.getElem?_cons_succ, List.getElem?_cons_zero]; rfl) (by kernel_rfl) (by kernel_rfl) (by kernel_rfl) (by exact fun _ _ _ h => h) (Or.inl ⟨by rfl, ?hyb41⟩) (by assumption) ?reb41
        case hyb41 => (rintro u ⟨s0, s1, s2, s3, s4, s5, s6, s7, -⟩; go_simp <;> with_reducible rfl)
        try simp only [Act.put, List.setIfInBounds_toArray, List.set_cons_zero, List.set_cons_succ]
        refine wpAnyH_take (i := 42) (oi := _) (v := ?_) (by simp only [List.getElem?_toArray, List.getElem?_cons_succ, List.getElem?_cons_zero]; rfl) (by kernel_rfl) (by kernel_rfl) (by kernel_rfl) (by exact fun _ _ _ h => h) (Or.inl ⟨by rfl, ?hyb42⟩) (by assumption) ?reb42
        case hyb42 => (rintro u ⟨s0, s1, s2, s3, s4, s5, s6, s7, -⟩; go_simp <;> with_reducible rfl)
        try simp only [Act.put, List.setIfInBounds_toArray, List.set_cons_zero, List.set_cons_succ]
        refine wpAnyH_take (i := 43) (oi := _) (v := ?_) (by simp only [List.getElem?_toArray, List.getElem?_cons_succ, List.getElem?_cons_zero]; rfl) (by kernel_rfl) (by kernel_rfl) (by kernel_rfl) (by exact fun _ _ _ h => h) (Or.inl ⟨by rfl, ?hyb43⟩) (by assumption) ?reb43
        case hyb43 => (rintro u ⟨s0, s1, s2, s3, s4, s5, s6, s7, -⟩; go_simp <;> with_reducible rfl)
        try simp only [Act.put, List.setIfInBounds_toArray, List.set_cons_zero, List.set_cons_succ]
        refine wpAnyH_take (i := 44) (oi := _) (v := ?_) (by simp only [List.getElem?_toArray, List.getElem?_cons_succ, List.getElem?_cons_zero]; rfl) (by kernel_rfl) (by kernel_rfl) (by kernel_rfl) (by exact fun _ _ _ h => h) (Or.inl ⟨by rfl, ?hyb44⟩) (by assumption) ?reb44
        case hyb44 => (rintro u ⟨s0, s1, s2, s3, s4, s5, s6, s7, -⟩; go_simp <;> with_reducible rfl)
        try simp only [Act.put, List.setIfInBounds_toArray, List.set_cons_zero, List.set_cons_succ]
        refine wpAnyH_take (i := 45) (oi := _) (v := ?_) (by simp only [List.getElem?_toArray, List.getElem?_cons_succ, List.getElem?_cons_zero]; rfl) (by kernel_rfl) (by kernel_rfl) (by kernel_rfl) (by exact fun _ _ _ h => h) (Or.inl ⟨by rfl, ?hyb45⟩) (by assumption) ?reb45
        case hyb45 => (rintro u ⟨s0, s1, s2, s3, s4, s5, s6, s7, -⟩; go_simp <;> with_reducible rfl)
        try simp only [Act.put, List.setIfInBounds_toArray, List.set_cons_zero, List.set_cons_succ]
        refine wpAnyH_take (i := 46) (oi := _) (v := ?_) (by simp only [List.getElem?_toArray, List.getElem?_cons_succ, List.getElem?_cons_zero]; rfl) (by kernel_rfl) (by kernel_rfl) (by kernel_rfl) (by exact fun _ _ _ h => h) (Or.inl ⟨by rfl, ?hyb46⟩) (by assumption) ?reb46
        case hyb46 => (rintro u ⟨s0, s1, s2, s3, s4, s5, s6, s7, -⟩; go_simp <;> with_reducible rfl)
        try simp only [Act.put, List.setIfInBounds_toArray, List.set_cons_zero, List.set_cons_succ]
        refine wpAnyH_take (i := 47) (oi := _) (v := ?_) (by simp only [List.getElem?_toArray, List.getElem?_cons_succ, List.getElem?_cons_zero]; rfl) (by kernel_rfl) (by kernel_rfl) (by kernel_rfl) (by exact fun _ _ _ h => h) (Or.inl ⟨by rfl, ?hyb47⟩) (by assumption) ?reb47
        case hyb47 => (rintro u ⟨s0, s1, s2, s3, s4, s5, s6, s7, -⟩; go_simp <;> with_reducible rfl)
        try simp only [Act.put, List.setIfInBounds_toArray, List.set_cons_zero, List.set_cons_succ]
        refine wpAnyH_take (i := 48) (oi := _) (v := ?_) (by simp only [List.getElem?_toArray, List.getElem?_cons_succ, List.getElem?_cons_zero]; rfl) (by kernel_rfl) (by kernel_rfl) (by kernel_rfl) (by exact fun _ _ _ h => h) (Or.inl ⟨by rfl, ?hyb48⟩) (by assumption) ?reb48
        case hyb48 => (rintro u ⟨s0, s1, s2, s3, s4, s5, s6, s7, -⟩; go_simp <;> with_reducible rfl)
        try simp only [Act.put, List.setIfInBounds_toArray, List.set_cons_zero, List.set_cons_succ]
        refine wpAnyH_take (i := 49) (oi := _) (v := ?_) (by simp only [List.getElem?_toArray, List.getElem?_cons_succ, List.getElem?_cons_zero]; rfl) (by kernel_rfl) (by kernel_rfl) (by kernel_rfl) (by exact fun _ _ _ h => h) (Or.inl ⟨by rfl, ?hyb49⟩) (by assumption) ?reb49
        case hyb49 => (rintro u ⟨s0, s1, s2, s3, s4, s5, s6, s7, -⟩; go_simp <;> with_reducible rfl)
        try simp only [Act.put, List.setIfInBounds_toArray, List.set_cons_zero, List.set_cons_succ]
        refine wpAnyH_take (i := 50) (oi := _) (v := ?_) (by simp only [List.getElem?_toArray, List.getElem?_cons_succ, List.getElem?_cons_zero]; rfl) (by kernel_rfl) (by kernel_rfl) (by kernel_rfl) (by exact fun _ _ _ h => h) (Or.inl ⟨by rfl, ?hyb50⟩) (by assumption) ?reb50
        case hyb50 => (rintro u ⟨s0, s1, s2, s3, s4, s5, s6, s7, -⟩; go_simp <;> with_reducible rfl)
        try simp only [Act.put, List.setIfInBounds_toArray, List.set_cons_zero, List.set_cons_succ]
        refine wpAnyH_take (i := 51) (oi := _) (v := ?_) (by simp only [List.getElem?_toArray, List.getElem?_cons_succ, List.getElem?_cons_zero]; rfl) (by kernel_rfl) (by kernel_rfl) (by kernel_rfl) (by exact fun _ _ _ h => h) (Or.inl ⟨by rfl, ?hyb51⟩) (by assumption) ?reb51
        case hyb51 => (rintro u ⟨s0, s1, s2, s3, s4, s5, s6, s7, -⟩; go_simp <;> with_reducible rfl)
        try simp only [Act.put, List.setIfInBounds_toArray, List.set_cons_zero, List.set_cons_succ]
        refine wpAnyH_take (i := 52) (oi := _) (v := ?_) (by simp only [List.getElem?_toArray, List.getElem?_cons_succ, List.getElem?_cons_zero]; rfl) (by kernel_rfl) (by kernel_rfl) (by kernel_rfl) (by exact fun _ _ _ h => h) (Or.inl ⟨by rfl, ?hyb52⟩) (by assumption) ?reb52
        case hyb52 => (rintro u ⟨s0, s1, s2, s3, s4, s5, s6, s7, -⟩; go_simp <;> with_reducible rfl)
        try simp only [Act.put, List.setIfInBounds_toArray, List.set_cons_zero, List.set_cons_succ]
        refine wpAnyH_take (i := 53) (oi := _) (v := ?_) (by simp only [List.getElem?_toArray, List.getElem?_cons_succ, List.getElem?_cons_zero]; rfl) (by kernel_rfl) (by kernel_rfl) (by kernel_rfl) (by exact fun _ _ _ h => h) (Or.inl ⟨by rfl, ?hyb53⟩) (by assumption) ?reb53
        case hyb53 => (rintro u ⟨s0, s1, s2, s3, s4, s5, s6, s7, -⟩; go_simp <;> with_reducible rfl)
        try simp only [Act.put, List.setIfInBounds_toArray, List.set_cons_zero, List.set_cons_succ]
        refine wpAnyH_take (i := 54) (oi := _) (v := ?_) (by simp only [List.getElem?_toArray, List.getElem?_cons_succ, List.getElem?_cons_zero]; rfl) (by kernel_rfl) (by kernel_rfl) (by kernel_rfl) (by exact fun _ _ _ h => h) (Or.inl ⟨by rfl, ?hyb54⟩) (by assumption) ?reb54
        case hyb54 => (rintro u ⟨s0, s1, s2, s3, s4, s5, s6, s7, -⟩; go_simp <;> with_reducible rfl)
        try simp only [Act.put, List.setIfInBounds_toArray, List.set_cons_zero, List.set_cons_succ]
        refine wpAnyH_take (i := 55) (oi := _) (v := ?_) (by simp only [List.getElem?_toArray, List.getElem?_cons_succ, List.getElem?_cons_zero]; rfl) (by kernel_rfl) (by kernel_rfl) (by kernel_rfl) (by exact fun _ _ _ h => h) (Or.inl ⟨by rfl, ?hyb55⟩) (by assumption) ?reb55
        case hyb55 => (rintro u ⟨s0, s1, s2, s3, s4, s5, s6, s7, -⟩; go_simp <;> with_reducible rfl)
        try simp only [Act.put, List.setIfInBounds_toArray, List.set_cons_zero, List.set_cons_succ]
        refine wpAnyH_take (i := 56) (oi := _) (v := ?_) (by simp only [List.getElem?_toArray, List.getElem?_cons_succ, List.getElem?_cons_zero]; rfl) (by kernel_rfl) (by kernel_rfl) (by kernel_rfl) (by exact fun _ _ _ h => h) (Or.inl ⟨by rfl, ?hyb56⟩) (by assumption) ?reb56
        case hyb56 => (rintro u ⟨s0, s1, s2, s3, s4, s5, s6, s7, -⟩; go_simp <;> with_reducible rfl)
        try simp only [Act.put, List.setIfInBounds_toArray, List.set_cons_zero, List.set_cons_succ]
        refine wpAnyH_take (i := 57) (oi := _) (v := ?_) (by simp only [List.getElem?_toArray, List.getElem?_cons_succ, List.getElem?_cons_zero]; rfl) (by kernel_rfl) (by kernel_rfl) (by kernel_rfl) (by exact fun _ _ _ h => h) (Or.inl ⟨by rfl, ?hyb57⟩) (by assumption) ?reb57
        case hyb57 => (rintro u ⟨s0, s1, s2, s3, s4, s5, s6, s7, -⟩; go_simp <;> with_reducible rfl)
        try simp only [Act.put, List.setIfInBounds_toArray, List.set_cons_zero, List.set_cons_succ]
        refine wpAnyH_take (i := 58) (oi := _) (v := ?_) (by simp only [List.getElem?_toArray, List.getElem?_cons_succ, List.getElem?_cons_zero]; rfl) (by kernel_rfl) (by kernel_rfl) (by kernel_rfl) (by exact fun _ _ _ h => h) (Or.inl ⟨by rfl, ?hyb58⟩) (by assumption) ?reb58
        case hyb58 => (rintro u ⟨s0, s1, s2, s3, s4, s5, s6, s7, -⟩; go_simp <;> with_reducible rfl)
        try simp only [Act.put, List.setIfInBounds_toArray, List.set_cons_zero, List.set_cons_succ]
        refine wpAnyH_take (i := 59) (oi := _) (v := undef) (by simp only [List.getElem?_toArray, List.getElem?_cons_succ, List.getElem?_cons_zero]; rfl) (by kernel_rfl) (by kernel_rfl) (by kernel_rfl) (by exact fun _ _ _ h => h) (Or.inr ⟨by rfl, rfl⟩) (by assumption) ?_
        try simp only [Act.put, List.setIfInBounds_toArray, List.set_cons_zero, List.set_cons_succ]
        refine wpAnyH_take (i := 60) (oi := _) (v := undef) (by simp only [List.getElem?_toArray, List.getElem?_cons_succ, List.getElem?_cons_zero]; rfl) (by kernel_rfl) (by kernel_rfl) (by kernel_rfl) (by exact fun _ _ _ h => h) (Or.inr ⟨by rfl, rfl⟩) (by assumption) ?_
        try simp only [Act.put, List.setIfInBounds_toArray, List.set_cons_zero, List.set_cons_succ]
        refine wpAnyH_take (i := 61) (oi := _) (v := undef) (by simp only [List.getElem?_toArray, List.getElem?_cons_succ, List.getElem?_cons_zero]; rfl) (by kernel_rfl) (by kernel_rfl) (by kernel_rfl) (by exact fun _ _ _ h => h) (Or.inr ⟨by rfl, rfl⟩) (by assumption) ?_
        try simp only [Act.put, List.setIfInBounds_toArray, List.set_cons_zero, List.set_cons_succ]
        refine wpAnyH_take (i := 62) (oi := _) (v := undef) (by simp only [List.getElem?_toArray, List.getElem?_cons_succ, List.getElem?_cons_zero]; rfl) (by kernel_rfl) (by kernel_rfl) (by kernel_rfl) (by exact fun _ _ _ h => h) (Or.inr ⟨by rfl, rfl⟩) (by assumption) ?_
        try simp only [Act.put, List.setIfInBounds_toArray, List.set_cons_zero, List.set_cons_succ]
        refine wpAnyH_take (i := 63) (oi := _) (v := undef) (by simp only [List.getElem?_toArray, List.getElem?_cons_succ, List.getElem?_cons_zero]; rfl) (by kernel_rfl) (by kernel_rfl) (by kernel_rfl) (by exact fun _ _ _ h => h) (Or.inr ⟨by rfl, rfl⟩) (by assumption) ?_
        try simp only [Act.put, List.setIfInBounds_toArray, List.set_cons_zero, List.set_cons_succ]
        refine wpAnyH_take (i := 64) (oi := _) (v := undef) (by simp only [List.getElem?_toArray, List.getElem?_cons_succ, List.getElem?_cons_zero]; rfl) (by kernel_rfl) (by kernel_rfl) (by kernel_rfl) (by exact fun _ _ _ h => h) (Or.inr ⟨by rfl, rfl⟩) (by assumption) ?_
        try simp only [Act.put, List.setIfInBounds_toArray, List.set_cons_zero, List.set_cons_succ]
        refine wpAnyH_take (i := 65) (oi := _) (v := ?_) (by simp only [List.getElem?_toArray, List.getElem?_cons_succ, List.getElem?_cons_zero]; rfl) (by kernel_rfl) (by kernel_rfl) (by kernel_rfl) (by exact fun _ _ _ h => h) (Or.inl ⟨by rfl, ?hyb65⟩) (by assumption) ?reb65
        case hyb65 => (rintro u ⟨s0, s1, s2, s3, s4, s5, s6, s7, -⟩; go_simp <;> with_reducible rfl)
        try simp only [Act.put, List.setIfInBounds_toArray, List.set_cons_zero, List.set_cons_succ]
        refine wpAnyH_take (i := 66) (oi := _) (v := ?_) (by simp only [List.getElem?_toArray, List.getElem?_cons_succ, List.getElem?_cons_zero]; rfl) (by kernel_rfl) (by kernel_rfl) (by kernel_rfl) (by exact fun _ _ _ h => h) (Or.inl ⟨by rfl, ?hyb66⟩) (by assumption) ?reb66
        case hyb66 => (rintro u ⟨s0, s1, s2, s3, s4, s5, s6, s7, -⟩; go_simp <;> with_reducible rfl)
        try simp only [Act.put, List.setIfInBounds_toArray, List.set_cons_zero, List.set_cons_succ]
        refine wpAnyH_done (by kernel_rfl) ?_ _
        go_wp2
        go_roundw
        case rel => exact ⟨j + 1, t2, by omega, by go_num, HT2.out, (Sq.of2 hHeld).1.noact⟩
        case measure => simp [intOf]; omega
    · obtain rfl : j = q := by omega
      go_wp2
      go_ret
      exact ⟨rfl, HS.out.bel⟩
theorem new_yes {n : Int} (h : newB n = true) : ∃ m : Nat, n = (m : Int) ∧ 1 ≤ m ∧ m ≤ 8 := by
  simp only [newB, Bool.and_eq_true, decide_eq_true_eq] at h
  exact ⟨n.toNat, by omega, by omega, by omega⟩
theorem plays_int (n : Int) (l : List Act) (A : Option Addr) (m c : Nat) (w : World) (hn : l.length = m) (hc : m ≤ c) (hm : c ≤ 9223372036854775807) (hr : Acts w w.heap.size A l) :
    Calls Try.prog 3 #[.int .i64 n, .slice A m c] w fun e w' => e = .returned (.bool true) ∧ Below w.heap.size w w' := by
  cases hb : newB n
  · exact plays_no n hb _ w
  · obtain ⟨k, rfl, h1, h2⟩ := new_yes hb
    exact plays_yes k h1 h2 l A m c w hn hc hm hr
end Go.Proofs.Ytnahccdjeilboaa.Prc
namespace Go.Proofs.Ytnahccdjeilboaa
open Go.RowKit Go.ChangeShapes Go.WideShapes Go.ChangeAt Prc

theorem plays_contract (H : Type) (enc : TypeId × Value → H) (W : World) (base : Nat) (args : Array Value) (ds gs : List (DataW H)) (before : List MemPlace)
    (hval : ∀ (j : Nat) t v, Try.f3.params[j]? = some t → args[j]? = some v → Value.okWide Try.prog W .any base t v)
    (hW : DataW.Whole enc Try.prog Try.f3.params.toList Rows.procPlaysSpec.vars false W args.toList ds gs before) :
    Calls Try.prog 3 args W fun e W' => ∃ v, e = .returned v ∧ Rows.procPlaysSpec.post enc Try.prog Try.f3 false true false false W args v W' := by
  have hW' := hW
  have hlt : ∀ x ∈ before, x.block < W.heap.size := fun x hx => hW.lt x hx
  obtain ⟨p, q, hA0, hV, rfl, _, _⟩ := hW
  have hA : DataW.TrodAll enc Try.prog W 0 (fun _ => true) true Try.f3.params.toList args.toList ds p := hA0
  rw [Try.params3] at hA hval
  obtain ⟨v0, vs0, d0, ds0, p0, q0, hargs, rfl, rfl, h0, r0⟩ := trodAll_cons hA
  obtain ⟨v1, vs1, d1, ds1, p1, q1, rfl, rfl, rfl, h1, r1⟩ := trodAll_cons r0
  obtain ⟨rfl, rfl, rfl⟩ := trodAll_nil r1
  obtain rfl : args = #[v0, v1] := by cases args; simp_all
  obtain ⟨rfl, rfl⟩ := trodVars_none hV
  clear hA0
  obtain ⟨a0, rfl, rfl, rfl, wa0⟩ := open_int Try.underlying3 (hval 0 3 v0 rfl rfl) h0
  have bd0 := bounds_i64 wa0
  obtain ⟨A1, n1, c1, l1, rfl, hn1, hc1, hm1, hr1⟩ := open_actsL (hval 1 22 v1 rfl rfl) h1 (fun x hx => hlt x (by simp [hx]))
  unfold maxLen at hm1
  refine (plays_int a0 l1 A1 n1 c1 W hn1 hc1 (by omega) hr1).mono fun e W' ⟨he, hb⟩ => ?_
  subst he
  exact ⟨_, rfl, law_post laid (by kernel_rfl) Try.underlying4 (by rw [Try.params3]; decide +kernel) rfl hW' ⟨rfl, rfl, rfl⟩ hb⟩

set_option maxRecDepth 100000 in
theorem plays_lifted (os : Os) (started : os.Started) (H : Type) (enc : TypeId × Value → H) :
    ReturnsInHanded {} Try.checked os 3 .any (Rows.procPlaysSpec.pre6 enc Try.prog Try.f3 Rows.procPlaysRow.domain false) (Rows.procPlaysSpec.post enc Try.prog Try.f3 false true false false) := by
  refine returnsInHanded_of_change (C := Try.checked) own started (by kernel_rfl) Try.func3
    (ChangeSpec.witness6 (enc := enc) (C := Try.checked) false ⟨#[], #[.int .i64 0, .slice none 0 0], []⟩ 8 (by kernel_rfl) (by kernel_rfl) (by kernel_rfl) (by kernel_rfl)) ?_
  intro W base args ds gs before hval hW _ _
  exact plays_contract H enc W base args ds gs before hval hW

/-- ProcPlays is true for every input. -/
theorem plays_holds : Rows.ProcPlaysSaid :=
  OpenClaim.holds_of_wide 3 Try.f3 rfl rfl rfl rfl rfl rfl rfl ⟨rfl, rfl, rfl, rfl, rfl⟩ rfl rfl rfl rfl rfl (by kernel_rfl) Try.func3 (by kernel_rfl)
    (of_decide_eq_true (by kernel_rfl)) (by unfold Func.isWrapper; first | (rw [if_pos (by decide +kernel)]; kernel_rfl) | (rw [if_neg (by decide +kernel)]; exact ⟨rfl, rfl⟩))
    (fun os started H enc _ => plays_lifted os started H enc)
end Go.Proofs.Ytnahccdjeilboaa
