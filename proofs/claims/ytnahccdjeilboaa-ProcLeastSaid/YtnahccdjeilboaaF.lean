/-
  A table beside other things, and what each call makes of it; the document's examples.
  No condition is set.
-/
import Derived.Test.YtnahccdjeilboaaO
namespace Go.Proofs.Ytnahccdjeilboaa.Prc
open Go.RowKit Apart
attribute [local go_sem ↓] Go.wp_at_zero Go.wp_at_succ

/-- Nothing. -/
def Emp : Asr := fun P _ => ∀ i, ¬ P i
theorem emp_lcl : Lcl Emp := ⟨fun _ _ _ h _ _ => h⟩
/-- The program's table, new since a world, beside other things. -/
def St (W : World) (b : Nat) (t : Tb) (C : Asr) (u : World) : Prop := t.Ok ∧ Now W.heap.size (star (TabA b t) C) u ∧ Below W.heap.size W u
section
variable {W u w' : World} {b b2 r2 : Nat} {t s : Tb} {C C' : Asr}
theorem St.bel (h : St W b t C u) : Below W.heap.size W u := h.2.2
theorem St.later (hC : Lcl C) (h : St W b t C u) (hb : Below u.heap.size u w') : St W b t C w' := ⟨h.1, h.2.1.below ((tab_lcl b t).star hC) hb, h.2.2.trans (hb.mono h.2.2.size)⟩
theorem St.tab (h : St W b t C u) : ∃ G, TabG b t G u := by
  obtain ⟨-, ⟨P, ⟨P1, P2, ⟨G, h1, -⟩, -⟩, -⟩, -⟩ := h
  exact ⟨G, h1⟩
theorem St.rest (h : St W b t C u) : ∃ P, C P u := by
  obtain ⟨-, ⟨P, ⟨P1, P2, -, h2, -⟩, -⟩, -⟩ := h
  exact ⟨P2, h2⟩
theorem St.open (hC : Lcl C) (h : St W b t C u) (p i : Int) :
    Calls Try.prog 21 #[.pointer (some ⟨b, 0, none⟩), .int .i64 p, .int .i64 i] u fun e w' => e = .returned (.tuple #[.int .i64 (openA t p i).1, .int .i64 (openA t p i).2.1]) ∧ St W b (openA t p i).2.2 C w' := by
  obtain ⟨h1, h2, h3⟩ := h
  refine (Now.call (A' := star (TabA b (openA t p i).2.2) C) h2 h3.size (fun P g1 g2 => call_left hC g1 g2 (fun P1 g3 g4 => open_c g3 g4 h1 p i))).mono ?_
  rintro e w' ⟨he, g1, g2⟩
  exact ⟨he, open_ok h1 p i, g1, h3.trans g2⟩
theorem St.close (hC : Lcl C) (h : St W b t C u) (p i : Int) :
    Calls Try.prog 22 #[.pointer (some ⟨b, 0, none⟩), .int .i64 p, .int .i64 i] u fun e w' => e = .returned (.tuple #[.int .i64 (closeA t p i).1, .int .i64 (closeA t p i).2.1]) ∧ St W b (closeA t p i).2.2 C w' := by
  obtain ⟨h1, h2, h3⟩ := h
  refine (Now.call (A' := star (TabA b (closeA t p i).2.2) C) h2 h3.size (fun P g1 g2 => call_left hC g1 g2 (fun P1 g3 g4 => close_c g3 g4 h1 p i))).mono ?_
  rintro e w' ⟨he, g1, g2⟩
  exact ⟨he, close_ok h1 p i, g1, h3.trans g2⟩
theorem St.does (hC : Lcl C) (h : St W b t C u) (a : Act) (ha : a.Good) :
    Calls Try.prog 12 #[.pointer (some ⟨b, 0, none⟩), .agg a.cells.toArray] u fun e w' => e = .returned (.tuple #[.int .i64 (doesA t a).1, .int .i64 (doesA t a).2.1]) ∧ St W b (doesA t a).2.2 C w' := by
  obtain ⟨h1, h2, h3⟩ := h
  refine (Now.call (A' := star (TabA b (doesA t a).2.2) C) h2 h3.size (fun P g1 g2 => call_left hC g1 g2 (fun P1 g3 g4 => does_any g3 g4 h1 a ha))).mono ?_
  rintro e w' ⟨he, g1, g2⟩
  exact ⟨he, does_ok h1 ha.label, g1, h3.trans g2⟩
theorem St.model (h : St W b t (RefA b2 r2 s) u) (hs : s.Ok) (a : Act) (ha : a.Good) :
    Calls Try.prog 13 #[.pointer (some ⟨b2, 0, none⟩), .agg a.cells.toArray] u fun e w' => e = .returned (.tuple #[.int .i64 (doesA s a).1, .int .i64 (doesA s a).2.1]) ∧ St W b t (RefA b2 r2 (doesA s a).2.2) w' := by
  obtain ⟨h1, h2, h3⟩ := h
  refine (Now.call (A' := star (TabA b t) (RefA b2 r2 (doesA s a).2.2)) h2 h3.size (fun P g1 g2 => call_right (tab_lcl b t) g1 g2 (fun P1 g3 g4 => model_any g3 g4 hs a ha))).mono ?_
  rintro e w' ⟨he, g1, g2⟩
  exact ⟨he, h1, g1, h3.trans g2⟩
theorem St.fd (hC : Lcl C) (h : St W b t C u) (p fd : Int) :
    Calls Try.prog 14 #[.pointer (some ⟨b, 0, none⟩), .int .i64 p, .int .i64 fd] u fun e w' => e = .returned (.tuple #[.agg #[.int .i64 (fdA t p fd).1.1, .int .i64 (fdA t p fd).1.2], .int .i64 (fdA t p fd).2]) ∧ Below u.heap.size u w' ∧ St W b t C w' := by
  obtain ⟨G, hG⟩ := h.tab
  refine (fd_any hG h.1 p fd).mono ?_
  rintro e w' ⟨he, hb⟩
  exact ⟨he, hb, h.later hC hb⟩
theorem St.label (h : St W b t C u) (p : Int) :
    Calls Try.prog 16 #[.pointer (some ⟨b, 0, none⟩), .int .i64 p] u fun e w' => e = .returned (.tuple #[.int .u16 (labelA t p).1, .int .i64 (labelA t p).2]) ∧ u = w' := by
  obtain ⟨G, hG⟩ := h.tab
  exact label_any hG h.1 p
theorem St.holds (hC : Lcl C) (h : St W b t C u) (i : Int) :
    Calls Try.prog 17 #[.pointer (some ⟨b, 0, none⟩), .int .i64 i] u fun e w' => e = .returned (.int .i64 (holdsA t i : Int)) ∧ Below u.heap.size u w' ∧ St W b t C w' := by
  obtain ⟨G, hG⟩ := h.tab
  refine (holds_any hG i).mono ?_
  rintro e w' ⟨he, hb⟩
  exact ⟨he, hb, h.later hC hb⟩
theorem St.ref (h : St W b t (RefA b2 r2 s) u) : RefG b2 r2 s u := by
  obtain ⟨P, h1⟩ := h.rest
  exact h1.1
/-- A new table. -/
theorem st_new (hb : Below W.heap.size W u) {n : Nat} (h1 : 1 ≤ n) (h2 : n ≤ 8) :
    Calls Try.prog 9 #[.int .i64 (n : Int)] u fun e w' => ∃ b, e = .returned (.tuple #[.pointer (some ⟨b, 0, none⟩), .int .i64 0]) ∧ St W b (empty n) Emp w' := by
  refine (new_any u h1 h2).mono ?_
  rintro e w' ⟨b, he, h3, P, h4, h5⟩
  refine ⟨b, he, empty_ok h1 h2, ⟨P, ⟨P, fun _ => False, h4, fun i hi => hi, fun i => by simp, fun i _ hi => hi⟩, fun i hi => ⟨Nat.le_trans hb.size (h5 i hi).1, (h5 i hi).2⟩⟩, hb.trans (h3.mono hb.size)⟩
/-- And the document's beside it. -/
def StR (W : World) (b : Nat) (t : Tb) (n : Nat) (e : Ending) (w' : World) : Prop := ∃ b2 r2, e = .returned (.tuple #[.pointer (some ⟨b2, 0, none⟩), .int .i64 0]) ∧ St W b t (RefA b2 r2 (empty n)) w'
theorem st_rnew (h : St W b t Emp u) {n : Nat} (h1 : 1 ≤ n) (h2 : n ≤ 8) : Calls Try.prog 10 #[.int .i64 (n : Int)] u (StR W b t n) := by
  refine (rnew_any u h1 h2).mono ?_
  rintro e w' ⟨b2, r2, he, h3, P, h4, h5⟩
  obtain ⟨h6, ⟨P0, ⟨P1, P2, h7, -, h8, -⟩, h9⟩, h10⟩ := h
  refine ⟨b2, r2, he, h6, ⟨fun i => P1 i ∨ P i, ⟨P1, P, (tab_lcl b t).out _ _ _ h7 (fun i hi => h3.block i (h9 i ((h8 i).2 (.inl hi))).2) h3.size, h4, fun i => Iff.rfl, fun i hi hj => ?_⟩, fun i hi => ?_⟩, h10.trans (h3.mono h10.size)⟩
  · have := (h9 i ((h8 i).2 (.inl hi))).2
    have := (h5 i hj).1
    omega
  · rcases hi with hi | hi
    · have := h9 i ((h8 i).2 (.inl hi))
      exact ⟨this.1, Nat.lt_of_lt_of_le this.2 h3.size⟩
    · exact ⟨Nat.le_trans h10.size (h5 i hi).1, (h5 i hi).2⟩
end
def x1 : Tb := (openA (empty 2) 0 5).2.2
def x2 : Tb := (openA x1 0 6).2.2
def x3 : Tb := (closeA x2 0 0).2.2
def x4 : Tb := (openA x3 0 7).2.2
set_option maxRecDepth 100000 in
theorem shown_paper : ((openA (empty 2) 0 5).1 = 0 ∧ (openA x1 0 6).1 = 1) ∧ (closeA x2 0 0).1 = 5 ∧ (openA x3 0 7).1 = 0 ∧ (holdsA x4 6 : Int) = 1 := by decide +kernel
set_option maxRecDepth 100000 in
set_option maxHeartbeats 1600000 in
theorem shown_any (w : World) : Calls Try.prog 8 #[] w fun e w' => e = .returned (.bool true) ∧ Below w.heap.size w w' := by
  obtain ⟨⟨e1, e2⟩, e3, e4, e5⟩ := shown_paper
  have E1 := Lib.hid e1
  have E2 := Lib.hid e2
  have E3 := Lib.hid e3
  have E4 := Lib.hid e4
  have E5 := Lib.hid e5
  clear e1 e2 e3 e4 e5
  go_enter Try.func8, Try.ntmps8
  go_wp2_with fail
  refine (st_new (n := 2) (Below.refl _ w) (by omega) (by omega)).mono ?_
  rintro e w1 ⟨b, rfl, h1⟩
  have H1 := Lib.hid h1
  clear h1
  go_wp2_with fail
  refine (H1.out.open emp_lcl 0 5).mono ?_
  rintro e w2 ⟨rfl, h1⟩
  rw [E1.out]
  have H2 := Lib.hid h1
  generalize (openA (empty 2) 0 5).2.1 = y1
  clear h1
  go_wp2_with fail
  refine (St.open (t := x1) emp_lcl H2.out 0 6).mono ?_
  rintro e w3 ⟨rfl, h1⟩
  rw [E2.out]
  have H3 := Lib.hid h1
  generalize (openA x1 0 6).2.1 = y2
  clear h1
  go_wp2_with fail
  refine (St.close (t := x2) emp_lcl H3.out 0 0).mono ?_
  rintro e w4 ⟨rfl, h1⟩
  rw [E3.out]
  have H4 := Lib.hid h1
  generalize (closeA x2 0 0).2.1 = y3
  clear h1
  go_wp2_with fail
  refine (St.open (t := x3) emp_lcl H4.out 0 7).mono ?_
  rintro e w5 ⟨rfl, h1⟩
  rw [E4.out]
  have H5 := Lib.hid h1
  generalize (openA x3 0 7).2.1 = y4
  clear h1
  go_wp2_with (go_at_call 17; refine (St.holds (t := x4) emp_lcl H5.out 6).mono ?_; rintro e w6 ⟨rfl, -, h1⟩; rw [E5.out]; have H6 := Lib.hid h1; clear h1)
  go_ret
  exact ⟨rfl, H6.out.bel⟩
end Go.Proofs.Ytnahccdjeilboaa.Prc
