/-
  The product and the sum of two whirls: spin's, by complex numbers, and the document's own.
-/
import Derived.Test.YtlopndnjkphdnaaSpinW0
namespace Go.Proofs.Ytlopndnjkphdnaa.Spin
open Go.RowKit

theorem keepF {w1 w2 : World} {B : Nat} (hb : Below B w1 w2) {p : Addr} (hp : p.block < B) (h : w1.frozen? p = false) : w2.frozen? p = false := (hb.frozen hp).trans h
theorem lt_of {w : World} {p : Addr} {v : Value} (h : w.cell? p = some v) : p.block < w.heap.size := World.block_lt_of_cell? w _ h

theorem ltS {w : World} {p : Addr} (h : (w.cell? p).isSome = true) : p.block < w.heap.size := by
  obtain ⟨v, hv⟩ := Option.isSome_iff_exists.1 h
  exact lt_of hv
theorem keepS {w1 w2 : World} {B : Nat} (hb : Below B w1 w2) {p : Addr} (hp : p.block < B) (h : (w1.cell? p).isSome = true) : (w2.cell? p).isSome = true := by rw [hb.cell hp]; exact h

/-- What a region of two boxed whirls and a result keeps. -/
theorem keep2 {w w1 w2 : World} {a b r : Nat} {a0 a1 b0 b1 : Value} (hb : Below w1.heap.size w1 w2)
    (h : w1.cell? ⟨a, 0, none⟩ = some a0 ∧ w1.cell? ⟨a, 1, none⟩ = some a1 ∧ w1.cell? ⟨b, 0, none⟩ = some b0 ∧ w1.cell? ⟨b, 1, none⟩ = some b1 ∧ (w1.cell? ⟨r, 0, none⟩).isSome = true ∧ (w1.cell? ⟨r, 1, none⟩).isSome = true ∧ w1.frozen? ⟨r, 0, none⟩ = false ∧ w1.frozen? ⟨r, 1, none⟩ = false ∧ Below w.heap.size w w1) :
    w2.cell? ⟨a, 0, none⟩ = some a0 ∧ w2.cell? ⟨a, 1, none⟩ = some a1 ∧ w2.cell? ⟨b, 0, none⟩ = some b0 ∧ w2.cell? ⟨b, 1, none⟩ = some b1 ∧ (w2.cell? ⟨r, 0, none⟩).isSome = true ∧ (w2.cell? ⟨r, 1, none⟩).isSome = true ∧ w2.frozen? ⟨r, 0, none⟩ = false ∧ w2.frozen? ⟨r, 1, none⟩ = false ∧ Below w.heap.size w w2 := by
  obtain ⟨h1, h2, h3, h4, h5, h6, h7, h8, h9⟩ := h
  exact ⟨keepC hb (lt_of h1) h1, keepC hb (lt_of h2) h2, keepC hb (lt_of h3) h3, keepC hb (lt_of h4) h4, keepS hb (ltS h5) h5, keepS hb (ltS h6) h6, keepF hb (ltS h5) h7, keepF hb (ltS h6) h8, h9.trans (hb.mono h9.size)⟩
theorem set_other {w : World} {p q : Addr} {v u : Value} (hne : p ≠ q) (h : w.cell? q = some u) : (w.setCell p v).cell? q = some u := by rw [World.cell?_setCell_other _ _ _ _ hne]; exact h
theorem set_some {w : World} {p q : Addr} {v : Value} (h : (w.cell? q).isSome = true) : ((w.setCell p v).cell? q).isSome = true := by
  by_cases hne : p = q
  · subst hne; rw [World.cell?_setCell_same' _ _ _ h]; rfl
  · rw [World.cell?_setCell_other _ _ _ _ hne]; exact h
theorem put2 {w w1 : World} {a b r : Nat} {a0 a1 b0 b1 x y : Value} (ha : a ≠ r) (hr : b ≠ r) (hw : w.heap.size ≤ r)
    (h : w1.cell? ⟨a, 0, none⟩ = some a0 ∧ w1.cell? ⟨a, 1, none⟩ = some a1 ∧ w1.cell? ⟨b, 0, none⟩ = some b0 ∧ w1.cell? ⟨b, 1, none⟩ = some b1 ∧ (w1.cell? ⟨r, 0, none⟩).isSome = true ∧ (w1.cell? ⟨r, 1, none⟩).isSome = true ∧ w1.frozen? ⟨r, 0, none⟩ = false ∧ w1.frozen? ⟨r, 1, none⟩ = false ∧ Below w.heap.size w w1) :
    ((w1.setCell ⟨r, 0, none⟩ x).setCell ⟨r, 1, none⟩ y).cell? ⟨a, 0, none⟩ = some a0 ∧ ((w1.setCell ⟨r, 0, none⟩ x).setCell ⟨r, 1, none⟩ y).cell? ⟨a, 1, none⟩ = some a1 ∧ ((w1.setCell ⟨r, 0, none⟩ x).setCell ⟨r, 1, none⟩ y).cell? ⟨b, 0, none⟩ = some b0 ∧ ((w1.setCell ⟨r, 0, none⟩ x).setCell ⟨r, 1, none⟩ y).cell? ⟨b, 1, none⟩ = some b1 ∧ (((w1.setCell ⟨r, 0, none⟩ x).setCell ⟨r, 1, none⟩ y).cell? ⟨r, 0, none⟩).isSome = true ∧ (((w1.setCell ⟨r, 0, none⟩ x).setCell ⟨r, 1, none⟩ y).cell? ⟨r, 1, none⟩).isSome = true ∧ ((w1.setCell ⟨r, 0, none⟩ x).setCell ⟨r, 1, none⟩ y).frozen? ⟨r, 0, none⟩ = false ∧ ((w1.setCell ⟨r, 0, none⟩ x).setCell ⟨r, 1, none⟩ y).frozen? ⟨r, 1, none⟩ = false ∧ Below w.heap.size w ((w1.setCell ⟨r, 0, none⟩ x).setCell ⟨r, 1, none⟩ y) := by
  obtain ⟨h1, h2, h3, h4, h5, h6, h7, h8, h9⟩ := h
  have ne : ∀ i j k : Nat, i ≠ r → (⟨r, j, none⟩ : Addr) ≠ ⟨i, k, none⟩ := fun i j k hi h => by injection h; omega
  refine ⟨set_other (ne _ _ _ ha) (set_other (ne _ _ _ ha) h1), set_other (ne _ _ _ ha) (set_other (ne _ _ _ ha) h2), set_other (ne _ _ _ hr) (set_other (ne _ _ _ hr) h3), set_other (ne _ _ _ hr) (set_other (ne _ _ _ hr) h4), set_some (set_some h5), set_some (set_some h6), ?_, ?_, ?_⟩
  · simpa using h7
  · simpa using h8
  · exact (h9.setCell hw _).setCell hw _

theorem put2d {w w1 : World} {a b r : Nat} {a0 a1 b0 b1 x y : Value} (ha : a ≠ r) (hr : b ≠ r) (hw : w.heap.size ≤ r)
    (h : w1.drew.cell? ⟨a, 0, none⟩ = some a0 ∧ w1.drew.cell? ⟨a, 1, none⟩ = some a1 ∧ w1.drew.cell? ⟨b, 0, none⟩ = some b0 ∧ w1.drew.cell? ⟨b, 1, none⟩ = some b1 ∧ (w1.drew.cell? ⟨r, 0, none⟩).isSome = true ∧ (w1.drew.cell? ⟨r, 1, none⟩).isSome = true ∧ w1.drew.frozen? ⟨r, 0, none⟩ = false ∧ w1.drew.frozen? ⟨r, 1, none⟩ = false ∧ Below w.heap.size w w1.drew) :
    ((w1.setCell ⟨r, 0, none⟩ x).setCell ⟨r, 1, none⟩ y).drew.cell? ⟨a, 0, none⟩ = some a0 ∧ ((w1.setCell ⟨r, 0, none⟩ x).setCell ⟨r, 1, none⟩ y).drew.cell? ⟨a, 1, none⟩ = some a1 ∧ ((w1.setCell ⟨r, 0, none⟩ x).setCell ⟨r, 1, none⟩ y).drew.cell? ⟨b, 0, none⟩ = some b0 ∧ ((w1.setCell ⟨r, 0, none⟩ x).setCell ⟨r, 1, none⟩ y).drew.cell? ⟨b, 1, none⟩ = some b1 ∧ (((w1.setCell ⟨r, 0, none⟩ x).setCell ⟨r, 1, none⟩ y).drew.cell? ⟨r, 0, none⟩).isSome = true ∧ (((w1.setCell ⟨r, 0, none⟩ x).setCell ⟨r, 1, none⟩ y).drew.cell? ⟨r, 1, none⟩).isSome = true ∧ ((w1.setCell ⟨r, 0, none⟩ x).setCell ⟨r, 1, none⟩ y).drew.frozen? ⟨r, 0, none⟩ = false ∧ ((w1.setCell ⟨r, 0, none⟩ x).setCell ⟨r, 1, none⟩ y).drew.frozen? ⟨r, 1, none⟩ = false ∧ Below w.heap.size w ((w1.setCell ⟨r, 0, none⟩ x).setCell ⟨r, 1, none⟩ y).drew := put2 (x := x) (y := y) ha hr hw h

theorem cell_new (w : World) (cs : Array Value) (t : TypeId) (i : Nat) : (w.alloc (.cells cs t)).cell? ⟨w.heap.size, i, none⟩ = cs[i]? := cell_of_row _ _ _ _ t (0, 0) (heap_alloc_new w _)
theorem cell_old (w : World) (o : Obj) {p : Addr} (h : p.block < w.heap.size) : (w.alloc o).cell? p = w.cell? p := ((Below.refl w.heap.size w).alloc (Nat.le_refl _) o).cell h
theorem froz_old (w : World) (o : Obj) {p : Addr} (h : p.block < w.heap.size) : (w.alloc o).frozen? p = w.frozen? p := ((Below.refl w.heap.size w).alloc (Nat.le_refl _) o).frozen h
theorem froz_new (w : World) (cs : Array Value) (t : TypeId) (i : Nat) : (w.alloc (.cells cs t)).frozen? ⟨w.heap.size, i, none⟩ = false := by
  unfold World.frozen?
  rw [heap_alloc_new]
  simp
theorem size_alloc (w : World) (o : Obj) : (w.alloc o).heap.size = w.heap.size + 1 := by simp
theorem start2 (w : World) (a0 a1 b0 b1 r0 r1 : Value) (t : TypeId) :
    let W := (((w.alloc (.cells #[a0, a1] t)).alloc (.cells #[b0, b1] t)).alloc (.cells #[r0, r1] t)).drew
    W.cell? ⟨w.heap.size, 0, none⟩ = some a0 ∧ W.cell? ⟨w.heap.size, 1, none⟩ = some a1 ∧ W.cell? ⟨w.heap.size + 1, 0, none⟩ = some b0 ∧ W.cell? ⟨w.heap.size + 1, 1, none⟩ = some b1 ∧ (W.cell? ⟨w.heap.size + 1 + 1, 0, none⟩).isSome = true ∧ (W.cell? ⟨w.heap.size + 1 + 1, 1, none⟩).isSome = true ∧ W.frozen? ⟨w.heap.size + 1 + 1, 0, none⟩ = false ∧ W.frozen? ⟨w.heap.size + 1 + 1, 1, none⟩ = false ∧ Below w.heap.size w W := by
  obtain ⟨w1, h1⟩ : ∃ w1, w1 = w.alloc (.cells #[a0, a1] t) := ⟨_, rfl⟩
  obtain ⟨w2, h2⟩ : ∃ w2, w2 = w1.alloc (.cells #[b0, b1] t) := ⟨_, rfl⟩
  have s1 : w1.heap.size = w.heap.size + 1 := by rw [h1, size_alloc]
  have s2 : w2.heap.size = w.heap.size + 2 := by rw [h2, size_alloc, s1]
  have ca : ∀ i, w1.cell? ⟨w.heap.size, i, none⟩ = #[a0, a1][i]? := fun i => by rw [h1, cell_new]
  have cb : ∀ i, w2.cell? ⟨w.heap.size + 1, i, none⟩ = #[b0, b1][i]? := fun i => by rw [← s1, h2, cell_new]
  have ca2 : ∀ i, w2.cell? ⟨w.heap.size, i, none⟩ = #[a0, a1][i]? := fun i => by rw [h2, cell_old _ _ (by show w.heap.size < _; omega), ca]
  have k3 : ∀ {p : Addr}, p.block < w.heap.size + 2 → ((w2.alloc (.cells #[r0, r1] t)).drew).cell? p = w2.cell? p := fun {p} hp => by
    show (w2.alloc _).cell? p = _
    rw [cell_old _ _ (by rw [s2]; exact hp)]
  have cr : ∀ i, ((w2.alloc (.cells #[r0, r1] t)).drew).cell? ⟨w.heap.size + 2, i, none⟩ = #[r0, r1][i]? := fun i => by
    show (w2.alloc _).cell? _ = _
    rw [← s2, cell_new]
  have fr : ∀ i, ((w2.alloc (.cells #[r0, r1] t)).drew).frozen? ⟨w.heap.size + 2, i, none⟩ = false := fun i => by
    show (w2.alloc _).frozen? _ = _
    rw [← s2, froz_new]
  intro W
  have hW : W = (w2.alloc (.cells #[r0, r1] t)).drew := by rw [h2, h1]
  rw [hW]
  refine ⟨(k3 (by show w.heap.size < _; omega)).trans (ca2 0), (k3 (by show w.heap.size < _; omega)).trans (ca2 1), (k3 (by show w.heap.size + 1 < _; omega)).trans (cb 0), (k3 (by show w.heap.size + 1 < _; omega)).trans (cb 1), by rw [show w.heap.size + 1 + 1 = w.heap.size + 2 from rfl, cr 0]; rfl, by rw [show w.heap.size + 1 + 1 = w.heap.size + 2 from rfl, cr 1]; rfl, fr 0, fr 1, ?_⟩
  rw [h2, h1]
  exact ((((Below.refl _ _).alloc (Nat.le_refl _) _).alloc (by simp) _).alloc (by simp; omega) _).drew

/-- The same without the draw. -/
theorem start2n (w : World) (a0 a1 b0 b1 r0 r1 : Value) (t : TypeId) :
    let W := (((w.alloc (.cells #[a0, a1] t)).alloc (.cells #[b0, b1] t)).alloc (.cells #[r0, r1] t))
    W.cell? ⟨w.heap.size, 0, none⟩ = some a0 ∧ W.cell? ⟨w.heap.size, 1, none⟩ = some a1 ∧ W.cell? ⟨w.heap.size + 1, 0, none⟩ = some b0 ∧ W.cell? ⟨w.heap.size + 1, 1, none⟩ = some b1 ∧ (W.cell? ⟨w.heap.size + 1 + 1, 0, none⟩).isSome = true ∧ (W.cell? ⟨w.heap.size + 1 + 1, 1, none⟩).isSome = true ∧ W.frozen? ⟨w.heap.size + 1 + 1, 0, none⟩ = false ∧ W.frozen? ⟨w.heap.size + 1 + 1, 1, none⟩ = false ∧ Below w.heap.size w W := by
  intro W
  obtain ⟨h1, h2, h3, h4, h5, h6, h7, h8, h9⟩ := start2 w a0 a1 b0 b1 r0 r1 t
  exact ⟨h1, h2, h3, h4, h5, h6, h7, h8, ⟨h9.os, h9.tape, h9.output, h9.size, h9.block⟩⟩

theorem cmul_at (a b c d : Int) (W : World) : (binOp .mul 89 (.complex .f64 (dbl (res a)) (dbl (res b))) (.complex .f64 (dbl (res c)) (dbl (res d)))).run Try.prog W =
    .ok (.complex .f64 (dbl (res a * res c - res b * res d)) (dbl (res a * res d + res b * res c))) W := by
  obtain ⟨a', ha⟩ := Int.eq_ofNat_of_zero_le (res_bd a).1
  obtain ⟨b', hb⟩ := Int.eq_ofNat_of_zero_le (res_bd b).1
  obtain ⟨c', hc⟩ := Int.eq_ofNat_of_zero_le (res_bd c).1
  obtain ⟨d', hd⟩ := Int.eq_ofNat_of_zero_le (res_bd d).1
  have := (res_bd a).2
  have := (res_bd b).2
  have := (res_bd c).2
  have := (res_bd d).2
  rw [ha, hb, hc, hd] at *
  exact run_complex_mul W 89 _ _ _ _ _ _ (cmul_exact a' b' c' d' (by omega) (by omega) (by omega) (by omega))
theorem cadd_at (a b c d : Int) (W : World) : (binOp .add 89 (.complex .f64 (dbl (res a)) (dbl (res b))) (.complex .f64 (dbl (res c)) (dbl (res d)))).run Try.prog W =
    .ok (.complex .f64 (dbl (res a + res c)) (dbl (res b + res d))) W := by
  obtain ⟨a', ha⟩ := Int.eq_ofNat_of_zero_le (res_bd a).1
  obtain ⟨b', hb⟩ := Int.eq_ofNat_of_zero_le (res_bd b).1
  obtain ⟨c', hc⟩ := Int.eq_ofNat_of_zero_le (res_bd c).1
  obtain ⟨d', hd⟩ := Int.eq_ofNat_of_zero_le (res_bd d).1
  have := (res_bd a).2
  have := (res_bd b).2
  have := (res_bd c).2
  have := (res_bd d).2
  rw [ha, hb, hc, hd] at *
  exact run_complex_sum W .add (.inl rfl) 89 .f64 _ _ _ _ _ _ (cadd_exact a' b' c' d' (by omega) (by omega) (by omega) (by omega))

theorem prod_bd {x y : Int} (hx : 0 ≤ x ∧ x ≤ 256) (hy : 0 ≤ y ∧ y ≤ 256) : 0 ≤ x * y ∧ x * y ≤ 65536 := by
  refine ⟨Int.mul_nonneg hx.1 hy.1, ?_⟩
  have := Int.mul_le_mul hx.2 hy.2 hy.1 (by decide)
  omega
/-- The whirl of a complex number that is a product of rests. -/
theorem spinOf_mul (a b c d : Int) (w : World) :
    Calls Try.prog 66 #[.complex .f64 (dbl (res a * res c - res b * res d)) (dbl (res a * res d + res b * res c))] w fun e w' => e = .returned (.agg #[.int .i64 (tX a b c d), .int .i64 (tY a b c d)]) ∧ Below w.heap.size w w' := by
  have h1 := prod_bd (res_bd a) (res_bd c)
  have h2 := prod_bd (res_bd b) (res_bd d)
  have h3 := prod_bd (res_bd a) (res_bd d)
  have h4 := prod_bd (res_bd b) (res_bd c)
  have := spinOf_any (res a * res c - res b * res d) (res a * res d + res b * res c) w (by omega) (by omega) (by omega) (by omega)
  rw [tX_of, tY_of] at this
  exact this
theorem spinOf_add (a b c d : Int) (w : World) :
    Calls Try.prog 66 #[.complex .f64 (dbl (res a + res c)) (dbl (res b + res d))] w fun e w' => e = .returned (.agg #[.int .i64 (pX a c), .int .i64 (pX b d)]) ∧ Below w.heap.size w w' := by
  have h1 := res_bd a
  have h2 := res_bd b
  have h3 := res_bd c
  have h4 := res_bd d
  have := spinOf_any (res a + res c) (res b + res d) w (by omega) (by omega) (by omega) (by omega)
  rw [add_res, add_res] at this
  exact this

set_option maxRecDepth 100000 in
set_option maxHeartbeats 800000 in
theorem turn_any (a b c d : Int) (w : World) :
    Calls Try.prog 60 #[.agg #[.int .i64 a, .int .i64 b], .agg #[.int .i64 c, .int .i64 d]] w fun e w' => e = .returned (.agg #[.int .i64 (tX a b c d), .int .i64 (tY a b c d)]) ∧ Below w.heap.size w w' := by
  have cm := fun W => cmul_at a b c d W
  go_enter Try.func60, Try.ntmps60
  go_wp2
  go_region_held3 (fun w' => w'.cell? ⟨w.heap.size, 0, none⟩ = some (.int .i64 a) ∧ w'.cell? ⟨w.heap.size, 1, none⟩ = some (.int .i64 b) ∧ w'.cell? ⟨w.heap.size + 1, 0, none⟩ = some (.int .i64 c) ∧ w'.cell? ⟨w.heap.size + 1, 1, none⟩ = some (.int .i64 d) ∧ (w'.cell? ⟨w.heap.size + 1 + 1, 0, none⟩).isSome = true ∧ (w'.cell? ⟨w.heap.size + 1 + 1, 1, none⟩).isSome = true ∧ w'.frozen? ⟨w.heap.size + 1 + 1, 0, none⟩ = false ∧ w'.frozen? ⟨w.heap.size + 1 + 1, 1, none⟩ = false ∧ Below w.heap.size w w')
    (first | exact keep2 hb (by assumption) | exact start2 _ _ _ _ _ _ _ _ | exact put2 (by omega) (by omega) (by omega) (by assumption))
    (first
      | (go_at_call 67; refine (number_any _ _ _).mono ?_; rintro e w' ⟨rfl, hb⟩)
      | (go_at_call 66; refine (spinOf_mul a b c d _).mono ?_; rintro e w' ⟨rfl, hb⟩; obtain ⟨hR0, hR1, hF0, hF1, hB⟩ := (keep2 hb (by assumption)).2.2.2.2; obtain ⟨u0, hu0⟩ := Option.isSome_iff_exists.1 hR0; obtain ⟨u1, hu1⟩ := Option.isSome_iff_exists.1 hR1))
  go_wp2
  exact bodyPost_ret (v := .agg #[.int .i64 (tX a b c d), .int .i64 (tY a b c d)]) (by simp [results, Try.results60, go_sem, hu0, hu1]) rfl ⟨rfl, (hB.setCell (by simp; omega) _).setCell (by simp; omega) _⟩
set_option maxRecDepth 100000 in
set_option maxHeartbeats 800000 in
theorem push_any (a b c d : Int) (w : World) :
    Calls Try.prog 59 #[.agg #[.int .i64 a, .int .i64 b], .agg #[.int .i64 c, .int .i64 d]] w fun e w' => e = .returned (.agg #[.int .i64 (pX a c), .int .i64 (pX b d)]) ∧ Below w.heap.size w w' := by
  have cm := fun W => cadd_at a b c d W
  go_enter Try.func59, Try.ntmps59
  go_wp2
  go_region_held3 (fun w' => w'.cell? ⟨w.heap.size, 0, none⟩ = some (.int .i64 a) ∧ w'.cell? ⟨w.heap.size, 1, none⟩ = some (.int .i64 b) ∧ w'.cell? ⟨w.heap.size + 1, 0, none⟩ = some (.int .i64 c) ∧ w'.cell? ⟨w.heap.size + 1, 1, none⟩ = some (.int .i64 d) ∧ (w'.cell? ⟨w.heap.size + 1 + 1, 0, none⟩).isSome = true ∧ (w'.cell? ⟨w.heap.size + 1 + 1, 1, none⟩).isSome = true ∧ w'.frozen? ⟨w.heap.size + 1 + 1, 0, none⟩ = false ∧ w'.frozen? ⟨w.heap.size + 1 + 1, 1, none⟩ = false ∧ Below w.heap.size w w')
    (first | exact keep2 hb (by assumption) | exact start2 _ _ _ _ _ _ _ _ | exact put2 (by omega) (by omega) (by omega) (by assumption))
    (first
      | (go_at_call 67; refine (number_any _ _ _).mono ?_; rintro e w' ⟨rfl, hb⟩)
      | (go_at_call 66; refine (spinOf_add a b c d _).mono ?_; rintro e w' ⟨rfl, hb⟩; obtain ⟨hR0, hR1, hF0, hF1, hB⟩ := (keep2 hb (by assumption)).2.2.2.2; obtain ⟨u0, hu0⟩ := Option.isSome_iff_exists.1 hR0; obtain ⟨u1, hu1⟩ := Option.isSome_iff_exists.1 hR1))
  go_wp2
  exact bodyPost_ret (v := .agg #[.int .i64 (pX a c), .int .i64 (pX b d)]) (by simp [results, Try.results59, go_sem, hu0, hu1]) rfl ⟨rfl, (hB.setCell (by simp; omega) _).setCell (by simp; omega) _⟩

theorem wrap_in (n : Int) (h0 : -1048576 ≤ n) (h : n ≤ 1048576) : IntKind.i64.wrap n = n := IntWalk.i64_in _ (by omega)
/-- Behind the second call: both locals' cells, and the result's. -/
theorem second {w w1 w2 : World} {r : Nat} {a0 a1 v0 v1 : Value} {t : TypeId} (hb : Below (w1.alloc (.cells #[a0, a1] t)).heap.size (w1.alloc (.cells #[a0, a1] t)) w2)
    (h5 : (w1.cell? ⟨r, 0, none⟩).isSome = true) (h6 : (w1.cell? ⟨r, 1, none⟩).isSome = true) (h7 : w1.frozen? ⟨r, 0, none⟩ = false) (h8 : w1.frozen? ⟨r, 1, none⟩ = false) (h9 : Below w.heap.size w w1) :
    let W := (w2.alloc (.cells #[v0, v1] t)).drew
    W.cell? ⟨w1.heap.size, 0, none⟩ = some a0 ∧ W.cell? ⟨w1.heap.size, 1, none⟩ = some a1 ∧ W.cell? ⟨w2.heap.size, 0, none⟩ = some v0 ∧ W.cell? ⟨w2.heap.size, 1, none⟩ = some v1 ∧ (W.cell? ⟨r, 0, none⟩).isSome = true ∧ (W.cell? ⟨r, 1, none⟩).isSome = true ∧ W.frozen? ⟨r, 0, none⟩ = false ∧ W.frozen? ⟨r, 1, none⟩ = false ∧ Below w.heap.size w W := by
  have hs : w1.heap.size < w2.heap.size := by have := hb.size; rw [size_alloc] at this; omega
  have l5 := ltS h5
  have l6 := ltS h6
  dsimp only at l5 l6
  have hb1 : Below w1.heap.size w1 w2 := ((Below.refl _ _).alloc (Nat.le_refl _) _).trans (hb.mono (by rw [size_alloc]; omega))
  have k : ∀ {p : Addr}, p.block < w2.heap.size → ((w2.alloc (.cells #[v0, v1] t)).drew).cell? p = w2.cell? p := fun {p} hp => cell_old _ _ hp
  have kf : ∀ {p : Addr}, p.block < w2.heap.size → ((w2.alloc (.cells #[v0, v1] t)).drew).frozen? p = w2.frozen? p := fun {p} hp => froz_old _ _ hp
  have c0 : ∀ i, w2.cell? ⟨w1.heap.size, i, none⟩ = #[a0, a1][i]? := fun i => by rw [hb.cell (p := ⟨w1.heap.size, i, none⟩) (by rw [size_alloc]; exact Nat.lt_succ_self _), cell_new]
  intro W
  refine ⟨(k hs).trans (c0 0), (k hs).trans (c0 1), cell_new _ _ _ 0, cell_new _ _ _ 1, ?_, ?_, ?_, ?_, ?_⟩
  · rw [k (by show r < _; omega), hb1.cell l5]; exact h5
  · rw [k (by show r < _; omega), hb1.cell l6]; exact h6
  · rw [kf (by show r < _; omega), hb1.frozen l5]; exact h7
  · rw [kf (by show r < _; omega), hb1.frozen l6]; exact h8
  · have h10 := (h9.trans (hb1.mono h9.size))
    exact (h10.alloc h10.size _).drew

set_option maxRecDepth 100000 in
set_option maxHeartbeats 800000 in
theorem rturn_any (a b c d : Int) (w : World) :
    Calls Try.prog 52 #[.agg #[.int .i64 a, .int .i64 b], .agg #[.int .i64 c, .int .i64 d]] w fun e w' => e = .returned (.agg #[.int .i64 (tX a b c d), .int .i64 (tY a b c d)]) ∧ Below w.heap.size w w' := by
  have p1 := prod_bd (res_bd a) (res_bd c)
  have p2 := prod_bd (res_bd b) (res_bd d)
  have p3 := prod_bd (res_bd a) (res_bd d)
  have p4 := prod_bd (res_bd b) (res_bd c)
  have m1 := wrap_in (res a * res c) (by omega) (by omega)
  have m2 := wrap_in (res b * res d) (by omega) (by omega)
  have m3 := wrap_in (res a * res d) (by omega) (by omega)
  have m4 := wrap_in (res b * res c) (by omega) (by omega)
  have m5 := wrap_in (res a * res c - res b * res d) (by omega) (by omega)
  have m6 := wrap_in (res a * res d + res b * res c) (by omega) (by omega)
  have H := Lib.hid (And.intro m1 (And.intro m2 (And.intro m3 (And.intro m4 (And.intro m5 m6)))))
  clear p1 p2 p3 p4 m1 m2 m3 m4 m5 m6
  go_enter Try.func52, Try.ntmps52
  go_wp2_with fail
  refine (norm_any a b _).mono ?_
  rintro e w1 ⟨rfl, hb⟩
  obtain ⟨-, -, hB0, hB1, hR0, hR1, hF0, hF1, hb1⟩ := keep2 hb (start2n _ _ _ _ _ _ _ _)
  have hz1 := ltS hR0
  have hz1b := lt_of hB0
  dsimp only at hz1 hz1b
  clear hb
  go_wp2_with fail
  refine (norm_any c d _).mono ?_
  rintro e w2 ⟨rfl, hb⟩
  have hS := second (v0 := .int .i64 (res c)) (v1 := .int .i64 (res d)) hb hR0 hR1 hF0 hF1 hb1
  have hR0b := Option.isSome_iff_exists.1 hS.2.2.2.2.1
  have hR1b := Option.isSome_iff_exists.1 hS.2.2.2.2.2.1
  obtain ⟨u0, hu0⟩ := hR0b
  obtain ⟨u1, hu1⟩ := hR1b
  have hz2 : w1.heap.size < w2.heap.size := by have := hb.size; simp at this; omega
  have HS := Lib.hid hS
  clear hB0 hB1 hR0 hR1 hF0 hF1 hb1 hS
  go_wp2_with fail
  clear hb
  generalize w2.alloc (Obj.cells #[Value.int IntKind.i64 (res c), Value.int IntKind.i64 (res d)] 56) = wr at HS hu0 hu1 ⊢
  have hu0' : wr.cell? ⟨w.heap.size + 1 + 1, 0, none⟩ = some u0 := hu0
  have hu1' : wr.cell? ⟨w.heap.size + 1 + 1, 1, none⟩ = some u1 := hu1
  have hF0 : wr.frozen? ⟨w.heap.size + 1 + 1, 0, none⟩ = false := HS.out.2.2.2.2.2.2.1
  have hF1 : wr.frozen? ⟨w.heap.size + 1 + 1, 1, none⟩ = false := HS.out.2.2.2.2.2.2.2.1
  clear hu0 hu1
  obtain ⟨m1, m2, m3, m4, m5, m6⟩ := H.out
  go_region_held3 (fun w' => w'.cell? ⟨w1.heap.size, 0, none⟩ = some (.int .i64 (res a)) ∧ w'.cell? ⟨w1.heap.size, 1, none⟩ = some (.int .i64 (res b)) ∧ w'.cell? ⟨w2.heap.size, 0, none⟩ = some (.int .i64 (res c)) ∧ w'.cell? ⟨w2.heap.size, 1, none⟩ = some (.int .i64 (res d)) ∧ (w'.cell? ⟨w.heap.size + 1 + 1, 0, none⟩).isSome = true ∧ (w'.cell? ⟨w.heap.size + 1 + 1, 1, none⟩).isSome = true ∧ w'.frozen? ⟨w.heap.size + 1 + 1, 0, none⟩ = false ∧ w'.frozen? ⟨w.heap.size + 1 + 1, 1, none⟩ = false ∧ Below w.heap.size w w')
    (first | exact HS.out | exact put2d (by omega) (by omega) (by omega) HS.out)
    ((go_at_call 51; refine (rest_any _ _).mono ?_; (first | rw [tX_of] | rw [tY_of]); rintro e w' ⟨rfl, rfl⟩))
  clear H m1 m2 m3 m4 m5 m6
  have hB : Below w.heap.size w wr := by
    have h9 := HS.out.2.2.2.2.2.2.2.2
    exact ⟨h9.os, h9.tape, h9.output, h9.size, h9.block⟩
  go_wp2
  exact bodyPost_ret (v := .agg #[.int .i64 (tX a b c d), .int .i64 (tY a b c d)]) (by simp [results, Try.results52, go_sem, hu0', hu1']) rfl ⟨rfl, ((hB.setCell (by simp; omega) _).setCell (by simp; omega) _).drew⟩
set_option maxRecDepth 100000 in
set_option maxHeartbeats 800000 in
theorem rpush_any (a b c d : Int) (w : World) :
    Calls Try.prog 53 #[.agg #[.int .i64 a, .int .i64 b], .agg #[.int .i64 c, .int .i64 d]] w fun e w' => e = .returned (.agg #[.int .i64 (pX a c), .int .i64 (pX b d)]) ∧ Below w.heap.size w w' := by
  have p1 := res_bd a
  have p2 := res_bd b
  have p3 := res_bd c
  have p4 := res_bd d
  have m1 := wrap_in (res a + res c) (by omega) (by omega)
  have m2 := wrap_in (res b + res d) (by omega) (by omega)
  have H := Lib.hid (And.intro m1 m2)
  clear p1 p2 p3 p4 m1 m2
  go_enter Try.func53, Try.ntmps53
  go_wp2_with fail
  refine (norm_any a b _).mono ?_
  rintro e w1 ⟨rfl, hb⟩
  obtain ⟨-, -, hB0, hB1, hR0, hR1, hF0, hF1, hb1⟩ := keep2 hb (start2n _ _ _ _ _ _ _ _)
  have hz1 := ltS hR0
  have hz1b := lt_of hB0
  dsimp only at hz1 hz1b
  clear hb
  go_wp2_with fail
  refine (norm_any c d _).mono ?_
  rintro e w2 ⟨rfl, hb⟩
  have hS := second (v0 := .int .i64 (res c)) (v1 := .int .i64 (res d)) hb hR0 hR1 hF0 hF1 hb1
  have hR0b := Option.isSome_iff_exists.1 hS.2.2.2.2.1
  have hR1b := Option.isSome_iff_exists.1 hS.2.2.2.2.2.1
  obtain ⟨u0, hu0⟩ := hR0b
  obtain ⟨u1, hu1⟩ := hR1b
  have hz2 : w1.heap.size < w2.heap.size := by have := hb.size; simp at this; omega
  have HS := Lib.hid hS
  clear hB0 hB1 hR0 hR1 hF0 hF1 hb1 hS
  go_wp2_with fail
  clear hb
  generalize w2.alloc (Obj.cells #[Value.int IntKind.i64 (res c), Value.int IntKind.i64 (res d)] 56) = wr at HS hu0 hu1 ⊢
  have hu0' : wr.cell? ⟨w.heap.size + 1 + 1, 0, none⟩ = some u0 := hu0
  have hu1' : wr.cell? ⟨w.heap.size + 1 + 1, 1, none⟩ = some u1 := hu1
  have hF0 : wr.frozen? ⟨w.heap.size + 1 + 1, 0, none⟩ = false := HS.out.2.2.2.2.2.2.1
  have hF1 : wr.frozen? ⟨w.heap.size + 1 + 1, 1, none⟩ = false := HS.out.2.2.2.2.2.2.2.1
  clear hu0 hu1
  obtain ⟨m1, m2⟩ := H.out
  go_region_held3 (fun w' => w'.cell? ⟨w1.heap.size, 0, none⟩ = some (.int .i64 (res a)) ∧ w'.cell? ⟨w1.heap.size, 1, none⟩ = some (.int .i64 (res b)) ∧ w'.cell? ⟨w2.heap.size, 0, none⟩ = some (.int .i64 (res c)) ∧ w'.cell? ⟨w2.heap.size, 1, none⟩ = some (.int .i64 (res d)) ∧ (w'.cell? ⟨w.heap.size + 1 + 1, 0, none⟩).isSome = true ∧ (w'.cell? ⟨w.heap.size + 1 + 1, 1, none⟩).isSome = true ∧ w'.frozen? ⟨w.heap.size + 1 + 1, 0, none⟩ = false ∧ w'.frozen? ⟨w.heap.size + 1 + 1, 1, none⟩ = false ∧ Below w.heap.size w w')
    (first | exact HS.out | exact put2d (by omega) (by omega) (by omega) HS.out)
    ((go_at_call 51; refine (rest_any _ _).mono ?_; rw [add_res]; (try rw [show res (a + c) = pX a c from rfl]); (try rw [show res (b + d) = pX b d from rfl]); rintro e w' ⟨rfl, rfl⟩))
  clear H m1 m2
  have hB : Below w.heap.size w wr := by
    have h9 := HS.out.2.2.2.2.2.2.2.2
    exact ⟨h9.os, h9.tape, h9.output, h9.size, h9.block⟩
  go_wp2
  exact bodyPost_ret (v := .agg #[.int .i64 (pX a c), .int .i64 (pX b d)]) (by simp [results, Try.results53, go_sem, hu0', hu1']) rfl ⟨rfl, ((hB.setCell (by simp; omega) _).setCell (by simp; omega) _).drew⟩
end Go.Proofs.Ytlopndnjkphdnaa.Spin
