/-
  Statement ProcApart: what one opens, closes and moves changes nothing of another one's, and a label never has less than it had. No condition.
-/
import Derived.Test.YtnahccdjeilboaaG2
namespace Go.Proofs.Ytnahccdjeilboaa.Prc
open Go.RowKit Go.ChangeShapes Go.WideShapes Go.ChangeAt Apart
attribute [local go_sem ↓] Go.wp_at_zero Go.wp_at_succ

/-! On paper. -/
theorem flow_self (a : Nat) : flowB a a = true := flowB_iff.2 fun _ h => h
theorem does_lab (t : Tb) (a : Act) (p : Nat) : flowB (t.lab p) ((doesA t a).2.2.lab p) = true := by
  unfold doesA
  split
  · show flowB (t.lab p) ((raiseA t a.p a.label).2.lab p) = true
    unfold raiseA
    split
    · split
      · rename_i h
        show flowB (t.lab p) (upd t.lab a.p.toNat a.label p) = true
        unfold upd
        split
        · subst p
          exact h
        · exact flow_self _
      · exact flow_self _
    · exact flow_self _
  · split
    · unfold openA
      split <;> (try split) <;> exact flow_self _
    · split
      · unfold closeA
        split <;> exact flow_self _
      · show flowB (t.lab p) ((moveA t a.p a.fd a.n).2.lab p) = true
        unfold moveA
        split <;> (try split) <;> exact flow_self _
theorem fd_nat2 {t : Tb} {p k : Nat} (hp : p < t.n) (hk : k < 8) : fdA t (p : Int) (k : Int) = match t.fil (p * 8 + k) with
    | some x => (x, 0)
    | none => ((0, 0), 2) := by
  have h1 : t.at_ (p : Int) (k : Int) = t.fil (p * 8 + k) := by
    unfold Tb.at_
    rw [has_of hp, fd_of hk, ix_nat]
    rfl
  unfold fdA Tb.why
  rw [h1, has_of hp]
  cases t.fil (p * 8 + k) <;> rfl
theorem upd_far {f : Nat → Option (Int × Int)} {p q k j : Nat} (h : q ≠ p) (hk : k < 8) (hj : j < 8) (x : Option (Int × Int)) : upd f (q * 8 + j) x (p * 8 + k) = f (p * 8 + k) := upd_other _ _ (by omega)
theorem does_other {t : Tb} {a : Act} {p : Nat} (ha : ¬ a.p = (p : Int)) : (doesA t a).2.2.lab p = t.lab p ∧ ∀ k, k < 8 → (doesA t a).2.2.fil (p * 8 + k) = t.fil (p * 8 + k) := by
  unfold doesA
  split
  · refine ⟨?_, fun k hk => ?_⟩
    · show (raiseA t a.p a.label).2.lab p = _
      unfold raiseA
      split
      · rename_i h
        obtain ⟨q, hq, -⟩ := has_nat h
        split
        · show upd t.lab a.p.toNat a.label p = _
          exact upd_other _ _ (by rw [hq]; simp; omega)
        · rfl
      · rfl
    · show (raiseA t a.p a.label).2.fil (p * 8 + k) = _
      unfold raiseA
      split <;> (try split) <;> rfl
  · split
    · unfold openA
      split
      · rename_i h
        rw [Bool.and_eq_true] at h
        obtain ⟨q, hq, -⟩ := has_nat h.1
        split
        · rename_i h2
          refine ⟨rfl, fun k hk => ?_⟩
          show upd t.fil (a.p.toNat * 8 + low t.fil (a.p.toNat * 8)) _ (p * 8 + k) = _
          exact upd_far (by rw [hq]; simp; omega) hk h2 _
        · exact ⟨rfl, fun _ _ => rfl⟩
      · exact ⟨rfl, fun _ _ => rfl⟩
    · split
      · unfold closeA
        split
        · rename_i h
          obtain ⟨q, j, hq, -, -, hj, -, h3⟩ := at_some h
          refine ⟨rfl, fun k hk => ?_⟩
          show upd t.fil (ix a.p a.fd) _ (p * 8 + k) = _
          rw [h3]
          exact upd_far (by omega) hk hj _
        · exact ⟨rfl, fun _ _ => rfl⟩
      · show (moveA t a.p a.fd a.n).2.lab p = _ ∧ ∀ k, k < 8 → (moveA t a.p a.fd a.n).2.fil (p * 8 + k) = _
        unfold moveA
        split
        · rename_i h
          obtain ⟨q, j, hq, -, -, hj, -, h3⟩ := at_some h
          split
          · refine ⟨rfl, fun k hk => ?_⟩
            show upd t.fil (ix a.p a.fd) _ (p * 8 + k) = _
            rw [h3]
            exact upd_far (by omega) hk hj _
          · exact ⟨rfl, fun _ _ => rfl⟩
        · exact ⟨rfl, fun _ _ => rfl⟩
theorem does_same {t : Tb} {a : Act} {p : Nat} (hp : p < t.n) (ha : ¬ a.p = (p : Int)) : (doesA t a).2.2.lab p = t.lab p ∧ ∀ k : Nat, k < 8 → fdA (doesA t a).2.2 (p : Int) (k : Int) = fdA t (p : Int) (k : Int) := by
  obtain ⟨h1, h2⟩ := does_other ha
  refine ⟨h1, fun k hk => ?_⟩
  rw [fd_nat2 (by rw [does_n]; exact hp) hk, fd_nat2 hp hk, h2 k hk]
theorem label_nat {t : Tb} {p : Nat} (hp : p < t.n) : labelA t (p : Int) = ((t.lab p : Int), 0) := by
  unfold labelA
  rw [has_of hp]
  rfl
/-- Rows of numbers. -/
def rowN (n : Nat) (f : Nat → Int) : List Value := (List.range n).map fun k => .int .i64 (f k)
theorem rowN_get (n : Nat) (f : Nat → Int) {k : Nat} (h : k < n) : (rowN n f)[k]? = some (.int .i64 (f k)) := by
  unfold rowN
  rw [List.getElem?_map, List.getElem?_range h]
  rfl
theorem rowN_set (n : Nat) (f : Nat → Int) {k : Nat} (h : k < n) (x : Int) : (rowN n f).set k (.int .i64 x) = rowN n (upd f k x) := by
  apply List.ext_getElem?
  intro j
  rw [List.getElem?_set]
  by_cases hj : j < n
  · have hr : (rowN n (upd f k x))[j]? = some (.int .i64 (upd f k x j)) := rowN_get _ _ hj
    rw [hr]
    by_cases e : k = j
    · subst e
      rw [if_pos rfl, if_pos (by simpa [rowN] using h), upd_same]
    · rw [if_neg e, rowN_get n f hj, upd_other _ _ (Ne.symm e)]
  · rw [List.getElem?_eq_none (l := rowN n (upd f k x)) (by simp [rowN]; omega), if_neg (by omega), List.getElem?_eq_none (by simp [rowN]; omega)]
theorem rowN_congr {n : Nat} {f g : Nat → Int} (h : ∀ k, k < n → f k = g k) : rowN n f = rowN n g := List.map_congr_left fun k hk => by rw [h k (List.mem_range.1 hk)]
def fdF (t : Tb) (p j m : Nat) : Int := if m / 2 < j then (if m % 2 = 0 then (fdA t (p : Int) ((m / 2 : Nat) : Int)).1.1 else (fdA t (p : Int) ((m / 2 : Nat) : Int)).1.2) else 0
def erF (t : Tb) (p j m : Nat) : Int := if m < j then (fdA t (p : Int) (m : Int)).2 else 0
theorem fdF_succ (t : Tb) (p j : Nat) : upd (upd (fdF t p j) (j * 2) (fdA t (p : Int) (j : Int)).1.1) (j * 2 + 1) (fdA t (p : Int) (j : Int)).1.2 = fdF t p (j + 1) := by
  funext m
  unfold upd fdF
  by_cases h1 : m = j * 2 + 1
  · rw [if_pos h1, if_pos (by omega), if_neg (by omega), show m / 2 = j by omega]
  · rw [if_neg h1]
    by_cases h2 : m = j * 2
    · rw [if_pos h2, if_pos (by omega), if_pos (by omega), show m / 2 = j by omega]
    · rw [if_neg h2]
      by_cases h3 : m / 2 < j
      · rw [if_pos h3, if_pos (show m / 2 < j + 1 by omega)]
      · rw [if_neg h3, if_neg (show ¬ m / 2 < j + 1 by omega)]
theorem erF_succ (t : Tb) (p j : Nat) : upd (erF t p j) j (fdA t (p : Int) (j : Int)).2 = erF t p (j + 1) := by
  funext m
  unfold upd erF
  by_cases h1 : m = j
  · rw [if_pos h1, if_pos (by omega), h1]
  · rw [if_neg h1]
    by_cases h3 : m < j
    · rw [if_pos h3, if_pos (by omega)]
    · rw [if_neg h3, if_neg (by omega)]
theorem fdF_get (t : Tb) (p k : Nat) (hk : k < 8) : fdF t p 8 (k * 2) = (fdA t (p : Int) (k : Int)).1.1 ∧ fdF t p 8 (k * 2 + 1) = (fdA t (p : Int) (k : Int)).1.2 ∧ erF t p 8 k = (fdA t (p : Int) (k : Int)).2 := by
  unfold fdF erF
  rw [if_pos (by omega), if_pos (by omega), if_pos (by omega), if_neg (by omega), if_pos hk, show k * 2 / 2 = k by omega, show (k * 2 + 1) / 2 = k by omega]
  exact ⟨rfl, rfl, rfl⟩

/-! Beside a table. -/
abbrev Fa (ga gf ge : Nat) (a : Act) (f h : Nat → Int) : Asr := star (star (star Emp (Bx ga 35 a.cells)) (Bx gf 56 (rowN 16 f))) (Bx ge 57 (rowN 8 h))
theorem fa_lcl (ga gf ge : Nat) (a : Act) (f h : Nat → Int) : Lcl (Fa ga gf ge a f h) := ((emp_lcl.star (bx_lcl _ _ _)).star (bx_lcl _ _ _)).star (bx_lcl _ _ _)
section
variable {W u w' : World} {b ga gf ge p kk : Nat} {t s : Tb} {f h : Nat → Int} {a : Act}
theorem St.acts (H : St W b s (Fa ga gf ge a f h) u) : u.cell? ⟨ga, 0, none⟩ = some (.int .u8 (a.kind : Int)) ∧ u.cell? ⟨ga, 1, none⟩ = some (.int .i64 a.p) ∧ u.cell? ⟨ga, 2, none⟩ = some (.int .i64 a.fd) ∧ u.cell? ⟨ga, 3, none⟩ = some (.int .i64 a.n) ∧ u.cell? ⟨ga, 4, none⟩ = some (.int .u16 (a.label : Int)) := by
  have := H.drop.bk1
  exact ⟨this.cell 0, this.cell 1, this.cell 2, this.cell 3, this.cell 4⟩
theorem St.fds (H : St W b s (Fa ga gf ge a f h) u) {k : Nat} (hk : k < 16) : u.cell? ⟨gf, k, none⟩ = some (.int .i64 (f k)) ∧ u.frozen? ⟨gf, k, none⟩ = false := ⟨(H.bk1.cell k).trans (rowN_get _ _ hk), H.bk1.frozen k⟩
theorem St.ers (H : St W b s (Fa ga gf ge a f h) u) {k : Nat} (hk : k < 8) : u.cell? ⟨ge, k, none⟩ = some (.int .i64 (h k)) ∧ u.frozen? ⟨ge, k, none⟩ = false := ⟨(H.bk.cell k).trans (rowN_get _ _ hk), H.bk.frozen k⟩
theorem St.setF (H : St W b s (Fa ga gf ge a f h) u) {k : Nat} (hk : k < 16) (x : Int) : St W b s (Fa ga gf ge a (upd f k x) h) (u.setCell ⟨gf, k, none⟩ (.int .i64 x)) := by
  have := H.put1 (emp_lcl.star (bx_lcl _ _ _)) k (.int .i64 x)
  rwa [rowN_set 16 f hk] at this
theorem St.setE (H : St W b s (Fa ga gf ge a f h) u) {k : Nat} (hk : k < 8) (x : Int) : St W b s (Fa ga gf ge a f (upd h k x)) (u.setCell ⟨ge, k, none⟩ (.int .i64 x)) := by
  have := H.put ((emp_lcl.star (bx_lcl _ _ _)).star (bx_lcl _ _ _)) k (.int .i64 x)
  rwa [rowN_set 8 h hk] at this
theorem apart_eq (H : St W b s (Fa ga gf ge a (fdF t p 8) (erF t p 8)) u) (hk : kk < 8) : ∃ x3 x4 y2, u.cell? ⟨gf, kk * 2, none⟩ = some (.int .i64 x3) ∧ u.cell? ⟨gf, kk * 2 + 1, none⟩ = some (.int .i64 x4) ∧ u.cell? ⟨ge, kk, none⟩ = some (.int .i64 y2) := ⟨_, _, _, (H.fds (by omega)).1, (H.fds (by omega)).1, (H.ers hk).1⟩
theorem apart_ne (H : St W b s (Fa ga gf ge a (fdF t p 8) (erF t p 8)) u) (hk : kk < 8) {x1 x2 y : Int} (hx : fdF t p 8 (kk * 2) = x1 ∧ fdF t p 8 (kk * 2 + 1) = x2 ∧ erF t p 8 kk = y) : ∃ x3 x4 y2, u.cell? ⟨gf, kk * 2, none⟩ = some (.int .i64 x3) ∧ u.cell? ⟨gf, kk * 2 + 1, none⟩ = some (.int .i64 x4) ∧ u.cell? ⟨ge, kk, none⟩ = some (.int .i64 y2) ∧ x3 = x1 ∧ x4 = x2 ∧ y2 = y := ⟨_, _, _, (H.fds (by omega)).1, (H.fds (by omega)).1, (H.ers hk).1, hx⟩
end
set_option maxRecDepth 100000 in
set_option maxHeartbeats 6400000 in
theorem apart_walk (l : List Act) (A : Option Addr) (m c : Nat) (who : Nat) (hwho : who < 256) (w : World) (hn : l.length = m) (hc : m ≤ c) (hm : c ≤ 9223372036854775807) (hr : Acts w w.heap.size A l) :
    Calls Try.prog 4 #[.slice A m c, .int .u8 (who : Int)] w fun e w' => e = .returned (.bool true) ∧ Below w.heap.size w w' := by
  obtain ⟨p, hp⟩ : ∃ p : Nat, (who : Int) % 8 = (p : Int) := ⟨who % 8, by omega⟩
  have hp8 : p < 8 := by omega
  obtain ⟨q, hq⟩ : ∃ q, q = min m 200 := ⟨_, rfl⟩
  have hqm : q ≤ m := by omega
  have hqc : q ≤ c := by omega
  have Hr := Lib.hid hr
  have Hn := Lib.hid hn
  have FEW := Lib.hid fun u => few_any m c A u hc hm
  rw [← hq] at FEW
  clear hq hr hn
  go_enter Try.func4, Try.ntmps4
  go_wp2_with fail
  refine (shown_any _).mono ?_
  rintro e w1 ⟨rfl, hb⟩
  have L := Lib.hid hb
  clear hb
  go_wp2_with fail
  refine (st_new (n := 8) L.out (by omega) (by omega)).mono ?_
  rintro e w2 ⟨b, rfl, hx⟩
  have H2 := Lib.hid hx
  clear hx L
  go_wp2_with (go_at_call 11; refine (FEW.out _).mono ?_; rintro e w' ⟨rfl, rfl⟩)
  clear hp
  go_loopw [38] (fun i wr => ∃ (j : Nat) (t : Tb), j ≤ q ∧ i = .int .i64 (j : Int) ∧ t.n = 8 ∧ St w b t Emp wr) (fun i _ => q - (intOf i).toNat)
  case atStart => exact ⟨0, empty 8, Nat.zero_le _, rfl, rfl, H2.out⟩
  case round =>
    obtain ⟨j, t, hj, rfl, ht, hS⟩ := hrel
    have HS := Lib.hid hS
    have HT := Lib.hid ht
    clear hS ht H2
    by_cases hlt : j < q
    · have hlt2 : (j : Int) < (q : Int) := by omega
      obtain ⟨bb, o, a, rfl, hbb, ha, hg, c0, c1, c2, c3, c4⟩ := (Hr.out.below HS.out.bel).at (i := j) (by rw [Hn.out]; omega)
      have hbr : bb < wr.heap.size := Nat.lt_of_lt_of_le hbb HS.out.bel.size
      have HG := Lib.hid hg
      have HN := Lib.hid ((does_n t a).trans HT.out)
      have HL := Lib.hid (does_lab t a p)
      have HO := Lib.hid (fun h => does_same (t := t) (a := a) (p := p) (by rw [HT.out]; exact hp8) h)
      have HA := Lib.hid (HS.out.box emp_lcl 35 a.cells)
      clear ha hg
      obtain ⟨k, ap, fd, nn, la⟩ := a
      have HA : Hid (St w b t (star Emp (Bx wr.heap.size 35 (Act.cells ⟨k, ap, fd, nn, la⟩))) (wr.alloc (.cells #[.int .u8 (k : Int), .int .i64 ap, .int .i64 fd, .int .i64 nn, .int .u16 (la : Int)] 35))) := HA
      have c0 : wr.cell? ⟨bb, o + j * 5, none⟩ = some (.int .u8 (k : Int)) := c0
      have c1 : wr.cell? ⟨bb, o + j * 5 + 1, none⟩ = some (.int .i64 ap) := c1
      have c2 : wr.cell? ⟨bb, o + j * 5 + 2, none⟩ = some (.int .i64 fd) := c2
      have c3 : wr.cell? ⟨bb, o + j * 5 + 3, none⟩ = some (.int .i64 nn) := c3
      have c4 : wr.cell? ⟨bb, o + j * 5 + 4, none⟩ = some (.int .u16 (la : Int)) := c4
      obtain ⟨ga, hga⟩ : ∃ ga, ga = wr.heap.size := ⟨_, rfl⟩
      have Hga := Lib.hid hga
      have Hlab := Lib.hid (label_nat (t := t) (p := p) (by rw [HT.out]; exact hp8))
      have HlabL := Lib.hid (HS.out.1.lab p)
      clear hga
      go_wp2_with fail
      rw [← Hga.out] at HA
      rw [← Hga.out]
      refine (HA.out.label (p : Int)).mono ?_
      rintro e w' ⟨rfl, rfl⟩
      rw [Hlab.out]
      have HB := Lib.hid ((HA.out.box (emp_lcl.star (bx_lcl _ _ _)) 56 (rowN 16 fun _ => 0)).box ((emp_lcl.star (bx_lcl _ _ _)).star (bx_lcl _ _ _)) 57 (rowN 8 fun _ => 0))
      obtain ⟨gf, hgf⟩ : ∃ gf, gf = wr.heap.size + 1 := ⟨_, rfl⟩
      obtain ⟨ge, hge⟩ : ∃ ge, ge = wr.heap.size + 1 + 1 := ⟨_, rfl⟩
      rw [show ((wr.alloc (.cells #[.int .u8 (k : Int), .int .i64 ap, .int .i64 fd, .int .i64 nn, .int .u16 (la : Int)] 35)).alloc (.cells (rowN 16 fun _ => 0).toArray 56)).heap.size = ge by rw [hge]; simp, show (wr.alloc (.cells #[.int .u8 (k : Int), .int .i64 ap, .int .i64 fd, .int .i64 nn, .int .u16 (la : Int)] 35)).heap.size = gf by rw [hgf]; simp] at HB
      have Hgf := Lib.hid hgf
      have Hge := Lib.hid hge
      clear hgf hge
      go_wp2
      rw [← Hge.out, ← Hgf.out]
      refine (fun (key : ∀ u, u = (((wr.alloc (.cells #[.int .u8 (k : Int), .int .i64 ap, .int .i64 fd, .int .i64 nn, .int .u16 (la : Int)] 35)).alloc (.cells (rowN 16 fun _ => 0).toArray 56)).alloc (.cells (rowN 8 fun _ => 0).toArray 57)) → Code.wp Try.prog _ _ _ u) => key _ rfl) (fun u hu => ?_)
      rw [← hu] at HB
      have e0 : rowN 16 (fun _ => 0) = rowN 16 (fdF t p 0) := rowN_congr fun m _ => by simp [fdF]
      have e1 : rowN 8 (fun _ => 0) = rowN 8 (erF t p 0) := rowN_congr fun m _ => by simp [erF]
      have HB : Hid (St w b t (Fa ga gf ge ⟨k, ap, fd, nn, la⟩ (fdF t p 0) (erF t p 0)) u) := by
        show Hid (St w b t (star (star (star Emp (Bx ga 35 (Act.cells ⟨k, ap, fd, nn, la⟩))) (Bx gf 56 (rowN 16 (fdF t p 0)))) (Bx ge 57 (rowN 8 (erF t p 0)))) u)
        rw [← e0, ← e1]
        exact HB
      clear hu e0 e1 Hga Hgf Hge HS HA c0 c1 c2 c3 c4
      go_loopw [48] (fun i wr => ∃ kk : Nat, kk ≤ 8 ∧ i = .int .i64 (kk : Int) ∧ St w b t (Fa ga gf ge ⟨k, ap, fd, nn, la⟩ (fdF t p kk) (erF t p kk)) wr) (fun i _ => 8 - (intOf i).toNat)
      case atStart => exact ⟨0, Nat.zero_le _, rfl, HB.out⟩
      case round =>
        obtain ⟨kk, hkk, rfl, hS⟩ := hrel
        have HK := Lib.hid hS
        clear hS HB
        by_cases h8 : kk < 8
        · have hk8 : (kk : Int) < 8 := by omega
          have HFD := Lib.hid (St.fd (fa_lcl ..) HK.out (p : Int) (kk : Int))
          have E1 := Lib.hid (fdF_succ t p kk)
          have E2 := Lib.hid (erF_succ t p kk)
          generalize fdA t (p : Int) (kk : Int) = F at *
          obtain ⟨⟨x1, x2⟩, y⟩ := F
          go_wp2_with fail
          refine HFD.out.mono ?_
          rintro e w7 ⟨rfl, -, hx⟩
          obtain ⟨a1, a2⟩ := hx.fds (k := kk * 2) (by omega)
          obtain ⟨a3, a4⟩ := hx.fds (k := kk * 2 + 1) (by omega)
          obtain ⟨a5, a6⟩ := hx.ers h8
          have H7 := Lib.hid (E2.out ▸ E1.out ▸ ((hx.setF (k := kk * 2) (by omega) x1).setF (k := kk * 2 + 1) (by omega) x2).setE h8 y)
          have hne : gf ≠ ge := type_ne hx.bk1 hx.bk (by decide)
          have hne2 : ge ≠ gf := Ne.symm hne
          clear hx HFD
          go_wp2
          go_roundw
          case rel => exact ⟨kk + 1, by omega, by go_num, H7.out⟩
          case measure => simp [intOf]; omega
        · obtain rfl : kk = 8 := by omega
          have HDO := Lib.hid (St.does (fa_lcl ..) HK.out ⟨k, ap, fd, nn, la⟩ HG.out)
          have HDO : Hid (Calls Try.prog 12 #[.pointer (some ⟨b, 0, none⟩), .agg #[.int .u8 (k : Int), .int .i64 ap, .int .i64 fd, .int .i64 nn, .int .u16 (la : Int)]] wr fun e w' => e = .returned (.tuple #[.int .i64 (doesA t ⟨k, ap, fd, nn, la⟩).1, .int .i64 (doesA t ⟨k, ap, fd, nn, la⟩).2.1]) ∧ St w b (doesA t ⟨k, ap, fd, nn, la⟩).2.2 (Fa ga gf ge ⟨k, ap, fd, nn, la⟩ (fdF t p 8) (erF t p 8)) w') := HDO
          generalize doesA t ⟨k, ap, fd, nn, la⟩ = R at *
          obtain ⟨r1, r2, t2⟩ := R
          have HN : Hid (t2.n = 8) := HN
          have HL : Hid (flowB (t.lab p) (t2.lab p) = true) := HL
          have HO : Hid (¬ ap = (p : Int) → t2.lab p = t.lab p ∧ ∀ k : Nat, k < 8 → fdA t2 (p : Int) (k : Int) = fdA t (p : Int) (k : Int)) := HO
          obtain ⟨d0, d1, d2, d3, d4⟩ := HK.out.acts
          replace d0 : wr.cell? ⟨ga, 0, none⟩ = some (.int .u8 (k : Int)) := d0
          replace d1 : wr.cell? ⟨ga, 1, none⟩ = some (.int .i64 ap) := d1
          replace d2 : wr.cell? ⟨ga, 2, none⟩ = some (.int .i64 fd) := d2
          replace d3 : wr.cell? ⟨ga, 3, none⟩ = some (.int .i64 nn) := d3
          replace d4 : wr.cell? ⟨ga, 4, none⟩ = some (.int .u16 (la : Int)) := d4
          go_wp2_with fail
          refine HDO.out.mono ?_
          rintro e w4 ⟨rfl, hx⟩
          have H4 : Hid (St w b t2 (Fa ga gf ge ⟨k, ap, fd, nn, la⟩ (fdF t p 8) (erF t p 8)) w4) := Lib.hid hx
          clear hx d0 d1 d2 d3 d4 HDO HK
          have Hlab2 := Lib.hid (label_nat (t := t2) (p := p) (by rw [HN.out]; exact hp8))
          have HlabL2 := Lib.hid (H4.out.1.lab p)
          go_wp2_with fail
          refine (H4.out.label (p : Int)).mono ?_
          rintro e w' ⟨rfl, rfl⟩
          rw [Hlab2.out]
          have d1 : w4.cell? ⟨ga, 1, none⟩ = some (.int .i64 ap) := H4.out.acts.2.1
          by_cases hap : ap = (p : Int)
          · have HD := H4
            subst hap
            go_wp2_with (go_at_call 20; refine (flows_any _ _ _ HlabL.out HlabL2.out).mono ?_; rintro e w' ⟨rfl, rfl⟩; rw [HL.out])
            clear d1
            go_loopw [91] (fun i wr => ∃ kk : Nat, kk ≤ 8 ∧ i = .int .i64 (kk : Int) ∧ St w b t2 (Fa ga gf ge ⟨k, (p : Int), fd, nn, la⟩ (fdF t p 8) (erF t p 8)) wr) (fun i _ => 8 - (intOf i).toNat)
            case atStart => exact ⟨0, Nat.zero_le _, rfl, HD.out⟩
            case round =>
              obtain ⟨kk, hkk, rfl, hS⟩ := hrel
              have HK := Lib.hid hS
              clear hS HD
              by_cases h8 : kk < 8
              · have hk8 : (kk : Int) < 8 := by omega
                have HFD := Lib.hid (St.fd (fa_lcl ..) HK.out (p : Int) (kk : Int))
                have HX := Lib.hid (fdF_get t p kk h8)
                skip
                skip
                obtain ⟨F, hF⟩ : ∃ F, F = fdA t2 (p : Int) (kk : Int) := ⟨_, rfl⟩
                rw [← hF] at HFD
                skip
                obtain ⟨⟨x1, x2⟩, y⟩ := F
                clear hF
                go_wp2_with fail
                refine HFD.out.mono ?_
                rintro e w7 ⟨rfl, -, hx⟩
                obtain ⟨gx, hgx⟩ : ∃ gx, gx = w7.heap.size := ⟨_, rfl⟩
                have Hgx := Lib.hid hgx
                have H7 : Hid (St w b t2 (Fa ga gf ge ⟨k, (p : Int), fd, nn, la⟩ (fdF t p 8) (erF t p 8)) (w7.alloc (.cells #[.int .i64 x1, .int .i64 x2] 40))) := hx.later (fa_lcl ..) ((Below.refl _ w7).alloc (Nat.le_refl _) _)
                have BX : Hid (Bk (w7.alloc (.cells #[.int .i64 x1, .int .i64 x2] 40)) gx 40 [.int .i64 x1, .int .i64 x2]) := by
                  rw [hgx]
                  exact Bk.new w7 40 [.int .i64 x1, .int .i64 x2]
                clear hx hgx HFD
                go_wp2_with fail
                rw [← Hgx.out]
                refine (fun (key : ∀ u, u = w7.alloc (.cells #[.int .i64 x1, .int .i64 x2] 40) → Code.wp Try.prog _ _ _ u) => key _ rfl) (fun u hu => ?_)
                rw [← hu] at H7 BX
                obtain ⟨x3, x4, y2, q1, q2, q3⟩ := apart_eq H7.out h8
                skip
                have hgd := guard_at40
                skip
                skip
                have HQ : Hid ((fun u => u.cell? ⟨ga, 1, none⟩ = some (.int .i64 (p : Int)) ∧ u.cell? ⟨gx, 0, none⟩ = some (.int .i64 x1) ∧ u.cell? ⟨gx, 1, none⟩ = some (.int .i64 x2) ∧ u.cell? ⟨gf, kk * 2, none⟩ = some (.int .i64 x3) ∧ u.cell? ⟨gf, kk * 2 + 1, none⟩ = some (.int .i64 x4) ∧ u.cell? ⟨ge, kk, none⟩ = some (.int .i64 y2) ∧ St w b t2 (Fa ga gf ge ⟨k, (p : Int), fd, nn, la⟩ (fdF t p 8) (erF t p 8)) u) u.drew) := ⟨H7.out.acts.2.1, BX.out.cell 0, BX.out.cell 1, q1, q2, q3, H7.out.later (fa_lcl ..) (Below.refl _ u).drew⟩
                clear hu Hgx H7 BX q1 q2 q3
                refine wp_region_held_drew (S := fun u => u.cell? ⟨ga, 1, none⟩ = some (.int .i64 (p : Int)) ∧ u.cell? ⟨gx, 0, none⟩ = some (.int .i64 x1) ∧ u.cell? ⟨gx, 1, none⟩ = some (.int .i64 x2) ∧ u.cell? ⟨gf, kk * 2, none⟩ = some (.int .i64 x3) ∧ u.cell? ⟨gf, kk * 2 + 1, none⟩ = some (.int .i64 x4) ∧ u.cell? ⟨ge, kk, none⟩ = some (.int .i64 y2) ∧ St w b t2 (Fa ga gf ge ⟨k, (p : Int), fd, nn, la⟩ (fdF t p 8) (erF t p 8)) u) (by kernel_rfl) HQ.out (fun hHeld => ?_)
                refine wpAnyH_take (i := 0) (oi := _) (v := ?_) (by simp only [List.getElem?_toArray, List.getElem?_cons_zero]; rfl) (by kernel_rfl) (by kernel_rfl) (by kernel_rfl) (by exact fun _ _ _ h => h) (Or.inl ⟨by rfl, ?hye0⟩) (by assumption) ?ree0
                case hye0 => (rintro u ⟨s0, s1, s2, s3, s4, s5, -⟩; go_simp <;> with_reducible rfl)
                try simp only [Act.put, List.setIfInBounds_toArray, List.set_cons_zero, List.set_cons_succ]
                refine wpAnyH_take (i := 1) (oi := _) (v := ?_) (by simp only [List.getElem?_toArray, List.getElem?_cons_succ, List.getElem?_cons_zero]; rfl) (by kernel_rfl) (by kernel_rfl) (by kernel_rfl) (by exact fun _ _ _ h => h) (Or.inl ⟨by rfl, ?hye1⟩) (by assumption) ?ree1
                case hye1 => (rintro u ⟨s0, s1, s2, s3, s4, s5, -⟩; go_simp <;> with_reducible rfl)
                try simp only [Act.put, List.setIfInBounds_toArray, List.set_cons_zero, List.set_cons_succ]
                refine wpAnyH_take (i := 2) (oi := _) (v := ?_) (by simp only [List.getElem?_toArray, List.getElem?_cons_succ, List.getElem?_cons_zero]; rfl) (by kernel_rfl) (by kernel_rfl) (by kernel_rfl) (by exact fun _ _ _ h => h) (Or.inl ⟨by rfl, ?hye2⟩) (by assumption) ?ree2
                case hye2 => (rintro u ⟨s0, s1, s2, s3, s4, s5, -⟩; go_simp <;> with_reducible rfl)
                try simp only [Act.put, List.setIfInBounds_toArray, List.set_cons_zero, List.set_cons_succ]
                refine wpAnyH_take (i := 3) (oi := _) (v := ?_) (by simp only [List.getElem?_toArray, List.getElem?_cons_succ, List.getElem?_cons_zero]; rfl) (by kernel_rfl) (by kernel_rfl) (by kernel_rfl) (by exact fun _ _ _ h => h) (Or.inl ⟨by rfl, ?hye3⟩) (by assumption) ?ree3
                case hye3 => (rintro u ⟨s0, s1, s2, s3, s4, s5, -⟩; go_simp <;> with_reducible rfl)
                try simp only [Act.put, List.setIfInBounds_toArray, List.set_cons_zero, List.set_cons_succ]
                refine wpAnyH_take (i := 4) (oi := _) (v := ?_) (by simp only [List.getElem?_toArray, List.getElem?_cons_succ, List.getElem?_cons_zero]; rfl) (by kernel_rfl) (by kernel_rfl) (by kernel_rfl) (by exact fun _ _ _ h => h) (Or.inl ⟨by rfl, ?hye4⟩) (by assumption) ?ree4
                case hye4 => (rintro u ⟨s0, s1, s2, s3, s4, s5, -⟩; go_simp <;> with_reducible rfl)
                try simp only [Act.put, List.setIfInBounds_toArray, List.set_cons_zero, List.set_cons_succ]
                refine wpAnyH_take (i := 5) (oi := _) (v := undef) (by simp only [List.getElem?_toArray, List.getElem?_cons_succ, List.getElem?_cons_zero]; rfl) (by kernel_rfl) (by kernel_rfl) (by kernel_rfl) (by exact fun _ _ _ h => h) (Or.inr ⟨by rfl, rfl⟩) (by assumption) ?_
                try simp only [Act.put, List.setIfInBounds_toArray, List.set_cons_zero, List.set_cons_succ]
                refine wpAnyH_take (i := 6) (oi := _) (v := undef) (by simp only [List.getElem?_toArray, List.getElem?_cons_succ, List.getElem?_cons_zero]; rfl) (by kernel_rfl) (by kernel_rfl) (by kernel_rfl) (by exact fun _ _ _ h => h) (Or.inr ⟨by rfl, rfl⟩) (by assumption) ?_
                try simp only [Act.put, List.setIfInBounds_toArray, List.set_cons_zero, List.set_cons_succ]
                refine wpAnyH_take (i := 7) (oi := _) (v := undef) (by simp only [List.getElem?_toArray, List.getElem?_cons_succ, List.getElem?_cons_zero]; rfl) (by kernel_rfl) (by kernel_rfl) (by kernel_rfl) (by exact fun _ _ _ h => h) (Or.inr ⟨by rfl, rfl⟩) (by assumption) ?_
                try simp only [Act.put, List.setIfInBounds_toArray, List.set_cons_zero, List.set_cons_succ]
                refine wpAnyH_take (i := 8) (oi := _) (v := undef) (by simp only [List.getElem?_toArray, List.getElem?_cons_succ, List.getElem?_cons_zero]; rfl) (by kernel_rfl) (by kernel_rfl) (by kernel_rfl) (by exact fun _ _ _ h => h) (Or.inr ⟨by rfl, rfl⟩) (by assumption) ?_
                try simp only [Act.put, List.setIfInBounds_toArray, List.set_cons_zero, List.set_cons_succ]
                refine wpAnyH_take (i := 9) (oi := _) (v := undef) (by simp only [List.getElem?_toArray, List.getElem?_cons_succ, List.getElem?_cons_zero]; rfl) (by kernel_rfl) (by kernel_rfl) (by kernel_rfl) (by exact fun _ _ _ h => h) (Or.inr ⟨by rfl, rfl⟩) (by assumption) ?_
                try simp only [Act.put, List.setIfInBounds_toArray, List.set_cons_zero, List.set_cons_succ]
                refine wpAnyH_take (i := 10) (oi := _) (v := undef) (by simp only [List.getElem?_toArray, List.getElem?_cons_succ, List.getElem?_cons_zero]; rfl) (by kernel_rfl) (by kernel_rfl) (by kernel_rfl) (by exact fun _ _ _ h => h) (Or.inr ⟨by rfl, rfl⟩) (by assumption) ?_
                try simp only [Act.put, List.setIfInBounds_toArray, List.set_cons_zero, List.set_cons_succ]
                refine wpAnyH_take (i := 11) (oi := _) (v := undef) (by simp only [List.getElem?_toArray, List.getElem?_cons_succ, List.getElem?_cons_zero]; rfl) (by kernel_rfl) (by kernel_rfl) (by kernel_rfl) (by exact fun _ _ _ h => h) (Or.inr ⟨by rfl, rfl⟩) (by assumption) ?_
                try simp only [Act.put, List.setIfInBounds_toArray, List.set_cons_zero, List.set_cons_succ]
                refine wpAnyH_take (i := 12) (oi := _) (v := undef) (by simp only [List.getElem?_toArray, List.getElem?_cons_succ, List.getElem?_cons_zero]; rfl) (by kernel_rfl) (by kernel_rfl) (by kernel_rfl) (by exact fun _ _ _ h => h) (Or.inr ⟨by rfl, rfl⟩) (by assumption) ?_
                try simp only [Act.put, List.setIfInBounds_toArray, List.set_cons_zero, List.set_cons_succ]
                refine wpAnyH_take (i := 13) (oi := _) (v := undef) (by simp only [List.getElem?_toArray, List.getElem?_cons_succ, List.getElem?_cons_zero]; rfl) (by kernel_rfl) (by kernel_rfl) (by kernel_rfl) (by exact fun _ _ _ h => h) (Or.inr ⟨by rfl, rfl⟩) (by assumption) ?_
                try simp only [Act.put, List.setIfInBounds_toArray, List.set_cons_zero, List.set_cons_succ]
                refine wpAnyH_take (i := 14) (oi := _) (v := undef) (by simp only [List.getElem?_toArray, List.getElem?_cons_succ, List.getElem?_cons_zero]; rfl) (by kernel_rfl) (by kernel_rfl) (by kernel_rfl) (by exact fun _ _ _ h => h) (Or.inr ⟨by rfl, rfl⟩) (by assumption) ?_
                try simp only [Act.put, List.setIfInBounds_toArray, List.set_cons_zero, List.set_cons_succ]
                refine wpAnyH_take (i := 15) (oi := _) (v := undef) (by simp only [List.getElem?_toArray, List.getElem?_cons_succ, List.getElem?_cons_zero]; rfl) (by kernel_rfl) (by kernel_rfl) (by kernel_rfl) (by exact fun _ _ _ h => h) (Or.inr ⟨by rfl, rfl⟩) (by assumption) ?_
                try simp only [Act.put, List.setIfInBounds_toArray, List.set_cons_zero, List.set_cons_succ]
                refine wpAnyH_take (i := 16) (oi := _) (v := undef) (by simp only [List.getElem?_toArray, List.getElem?_cons_succ, List.getElem?_cons_zero]; rfl) (by kernel_rfl) (by kernel_rfl) (by kernel_rfl) (by exact fun _ _ _ h => h) (Or.inr ⟨by rfl, rfl⟩) (by assumption) ?_
                try simp only [Act.put, List.setIfInBounds_toArray, List.set_cons_zero, List.set_cons_succ]
                refine wpAnyH_take (i := 17) (oi := _) (v := ?_) (by simp only [List.getElem?_toArray, List.getElem?_cons_succ, List.getElem?_cons_zero]; rfl) (by kernel_rfl) (by kernel_rfl) (by kernel_rfl) (by exact fun _ _ _ h => h) (Or.inl ⟨by rfl, ?hye17⟩) (by assumption) ?ree17
                case hye17 => (rintro u ⟨s0, s1, s2, s3, s4, s5, -⟩; go_simp <;> with_reducible rfl)
                try simp only [Act.put, List.setIfInBounds_toArray, List.set_cons_zero, List.set_cons_succ]
                refine wpAnyH_done (by kernel_rfl) ?_ _

                have HE := Lib.hid HQ.out.2.2.2.2.2.2
                clear hHeld HQ
                go_wp2
                go_roundw
                case rel => exact ⟨kk + 1, by omega, by go_num, HE.out⟩
                case measure => simp [intOf]; omega
              · obtain rfl : kk = 8 := by omega
                go_wp2
                go_roundw
                case rel => exact ⟨j + 1, t2, by omega, by go_num, HN.out, HK.out.drop.drop.drop⟩
                case measure => simp [intOf]; omega
          · have Ho := Lib.hid (HO.out hap)
            have hl := Ho.out.1
            have HD := H4
            have HL' := HL
            rw [hl] at HL' ⊢
            have Hl := Lib.hid hl
            clear hl
            have hap2 : Hid (¬ ap = (p : Int)) := hap
            go_wp2_with (go_at_call 20; refine (flows_any _ _ _ HlabL.out HlabL.out).mono ?_; rintro e w' ⟨rfl, rfl⟩; rw [HL'.out])
            clear d1
            go_loopw [91] (fun i wr => ∃ kk : Nat, kk ≤ 8 ∧ i = .int .i64 (kk : Int) ∧ St w b t2 (Fa ga gf ge ⟨k, ap, fd, nn, la⟩ (fdF t p 8) (erF t p 8)) wr) (fun i _ => 8 - (intOf i).toNat)
            case atStart => exact ⟨0, Nat.zero_le _, rfl, HD.out⟩
            case round =>
              obtain ⟨kk, hkk, rfl, hS⟩ := hrel
              have HK := Lib.hid hS
              clear hS HD
              by_cases h8 : kk < 8
              · have hk8 : (kk : Int) < 8 := by omega
                have HFD := Lib.hid (St.fd (fa_lcl ..) HK.out (p : Int) (kk : Int))
                have HX := Lib.hid (fdF_get t p kk h8)
                have HO := Lib.hid ((Ho.out).2 kk h8)
                rw [HO.out] at HFD
                obtain ⟨F, hF⟩ : ∃ F, F = fdA t (p : Int) (kk : Int) := ⟨_, rfl⟩
                rw [← hF] at HFD
                rw [← hF] at HX
                obtain ⟨⟨x1, x2⟩, y⟩ := F
                clear hF
                go_wp2_with fail
                refine HFD.out.mono ?_
                rintro e w7 ⟨rfl, -, hx⟩
                obtain ⟨gx, hgx⟩ : ∃ gx, gx = w7.heap.size := ⟨_, rfl⟩
                have Hgx := Lib.hid hgx
                have H7 : Hid (St w b t2 (Fa ga gf ge ⟨k, ap, fd, nn, la⟩ (fdF t p 8) (erF t p 8)) (w7.alloc (.cells #[.int .i64 x1, .int .i64 x2] 40))) := hx.later (fa_lcl ..) ((Below.refl _ w7).alloc (Nat.le_refl _) _)
                have BX : Hid (Bk (w7.alloc (.cells #[.int .i64 x1, .int .i64 x2] 40)) gx 40 [.int .i64 x1, .int .i64 x2]) := by
                  rw [hgx]
                  exact Bk.new w7 40 [.int .i64 x1, .int .i64 x2]
                clear hx hgx HFD
                go_wp2_with fail
                rw [← Hgx.out]
                refine (fun (key : ∀ u, u = w7.alloc (.cells #[.int .i64 x1, .int .i64 x2] 40) → Code.wp Try.prog _ _ _ u) => key _ rfl) (fun u hu => ?_)
                rw [← hu] at H7 BX
                obtain ⟨x3, x4, y2, q1, q2, q3, q4, q5, q6⟩ := apart_ne H7.out h8 HX.out
                rw [q4] at q1; rw [q5] at q2; rw [q6] at q3; clear q4 q5 q6
                have hgd := guard_at40
                have hgs := fd_nsame x1 x2
                have hb2 : (ap != (p : Int)) = true := by simpa using hap2.out
                have HQ : Hid ((fun u => u.cell? ⟨ga, 1, none⟩ = some (.int .i64 ap) ∧ u.cell? ⟨gx, 0, none⟩ = some (.int .i64 x1) ∧ u.cell? ⟨gx, 1, none⟩ = some (.int .i64 x2) ∧ u.cell? ⟨gf, kk * 2, none⟩ = some (.int .i64 x1) ∧ u.cell? ⟨gf, kk * 2 + 1, none⟩ = some (.int .i64 x2) ∧ u.cell? ⟨ge, kk, none⟩ = some (.int .i64 y) ∧ St w b t2 (Fa ga gf ge ⟨k, ap, fd, nn, la⟩ (fdF t p 8) (erF t p 8)) u) u.drew) := ⟨H7.out.acts.2.1, BX.out.cell 0, BX.out.cell 1, q1, q2, q3, H7.out.later (fa_lcl ..) (Below.refl _ u).drew⟩
                clear hu Hgx H7 BX q1 q2 q3
                refine wp_region_held_drew (S := fun u => u.cell? ⟨ga, 1, none⟩ = some (.int .i64 ap) ∧ u.cell? ⟨gx, 0, none⟩ = some (.int .i64 x1) ∧ u.cell? ⟨gx, 1, none⟩ = some (.int .i64 x2) ∧ u.cell? ⟨gf, kk * 2, none⟩ = some (.int .i64 x1) ∧ u.cell? ⟨gf, kk * 2 + 1, none⟩ = some (.int .i64 x2) ∧ u.cell? ⟨ge, kk, none⟩ = some (.int .i64 y) ∧ St w b t2 (Fa ga gf ge ⟨k, ap, fd, nn, la⟩ (fdF t p 8) (erF t p 8)) u) (by kernel_rfl) HQ.out (fun hHeld => ?_)
                refine wpAnyH_take (i := 0) (oi := _) (v := ?_) (by simp only [List.getElem?_toArray, List.getElem?_cons_zero]; rfl) (by kernel_rfl) (by kernel_rfl) (by kernel_rfl) (by exact fun _ _ _ h => h) (Or.inl ⟨by rfl, ?hyn0⟩) (by assumption) ?ren0
                case hyn0 => (rintro u ⟨s0, s1, s2, s3, s4, s5, -⟩; go_simp <;> with_reducible rfl)
                try simp only [Act.put, List.setIfInBounds_toArray, List.set_cons_zero, List.set_cons_succ]
                refine wpAnyH_take (i := 1) (oi := _) (v := ?_) (by simp only [List.getElem?_toArray, List.getElem?_cons_succ, List.getElem?_cons_zero]; rfl) (by kernel_rfl) (by kernel_rfl) (by kernel_rfl) (by exact fun _ _ _ h => h) (Or.inl ⟨by rfl, ?hyn1⟩) (by assumption) ?ren1
                case hyn1 => (rintro u ⟨s0, s1, s2, s3, s4, s5, -⟩; go_simp <;> with_reducible rfl)
                try simp only [Act.put, List.setIfInBounds_toArray, List.set_cons_zero, List.set_cons_succ]
                refine wpAnyH_take (i := 2) (oi := _) (v := ?_) (by simp only [List.getElem?_toArray, List.getElem?_cons_succ, List.getElem?_cons_zero]; rfl) (by kernel_rfl) (by kernel_rfl) (by kernel_rfl) (by exact fun _ _ _ h => h) (Or.inl ⟨by rfl, ?hyn2⟩) (by assumption) ?ren2
                case hyn2 => (rintro u ⟨s0, s1, s2, s3, s4, s5, -⟩; go_simp <;> with_reducible rfl)
                try simp only [Act.put, List.setIfInBounds_toArray, List.set_cons_zero, List.set_cons_succ]
                refine wpAnyH_take (i := 3) (oi := _) (v := ?_) (by simp only [List.getElem?_toArray, List.getElem?_cons_succ, List.getElem?_cons_zero]; rfl) (by kernel_rfl) (by kernel_rfl) (by kernel_rfl) (by exact fun _ _ _ h => h) (Or.inl ⟨by rfl, ?hyn3⟩) (by assumption) ?ren3
                case hyn3 => (rintro u ⟨s0, s1, s2, s3, s4, s5, -⟩; go_simp <;> with_reducible rfl)
                try simp only [Act.put, List.setIfInBounds_toArray, List.set_cons_zero, List.set_cons_succ]
                refine wpAnyH_take (i := 4) (oi := _) (v := ?_) (by simp only [List.getElem?_toArray, List.getElem?_cons_succ, List.getElem?_cons_zero]; rfl) (by kernel_rfl) (by kernel_rfl) (by kernel_rfl) (by exact fun _ _ _ h => h) (Or.inl ⟨by rfl, ?hyn4⟩) (by assumption) ?ren4
                case hyn4 => (rintro u ⟨s0, s1, s2, s3, s4, s5, -⟩; go_simp <;> with_reducible rfl)
                try simp only [Act.put, List.setIfInBounds_toArray, List.set_cons_zero, List.set_cons_succ]
                refine wpAnyH_take (i := 5) (oi := _) (v := ?_) (by simp only [List.getElem?_toArray, List.getElem?_cons_succ, List.getElem?_cons_zero]; rfl) (by kernel_rfl) (by kernel_rfl) (by kernel_rfl) (by exact fun _ _ _ h => h) (Or.inl ⟨by rfl, ?hyn5⟩) (by assumption) ?ren5
                case hyn5 => (rintro u ⟨s0, s1, s2, s3, s4, s5, -⟩; go_simp <;> with_reducible rfl)
                try simp only [Act.put, List.setIfInBounds_toArray, List.set_cons_zero, List.set_cons_succ]
                refine wpAnyH_take (i := 6) (oi := _) (v := ?_) (by simp only [List.getElem?_toArray, List.getElem?_cons_succ, List.getElem?_cons_zero]; rfl) (by kernel_rfl) (by kernel_rfl) (by kernel_rfl) (by exact fun _ _ _ h => h) (Or.inl ⟨by rfl, ?hyn6⟩) (by assumption) ?ren6
                case hyn6 => (rintro u ⟨s0, s1, s2, s3, s4, s5, -⟩; go_simp <;> with_reducible rfl)
                try simp only [Act.put, List.setIfInBounds_toArray, List.set_cons_zero, List.set_cons_succ]
                refine wpAnyH_take (i := 7) (oi := _) (v := ?_) (by simp only [List.getElem?_toArray, List.getElem?_cons_succ, List.getElem?_cons_zero]; rfl) (by kernel_rfl) (by kernel_rfl) (by kernel_rfl) (by exact fun _ _ _ h => h) (Or.inl ⟨by rfl, ?hyn7⟩) (by assumption) ?ren7
                case hyn7 => (rintro u ⟨s0, s1, s2, s3, s4, s5, -⟩; go_simp <;> with_reducible rfl)
                try simp only [Act.put, List.setIfInBounds_toArray, List.set_cons_zero, List.set_cons_succ]
                refine wpAnyH_take (i := 8) (oi := _) (v := ?_) (by simp only [List.getElem?_toArray, List.getElem?_cons_succ, List.getElem?_cons_zero]; rfl) (by kernel_rfl) (by kernel_rfl) (by kernel_rfl) (by exact fun _ _ _ h => h) (Or.inl ⟨by rfl, ?hyn8⟩) (by assumption) ?ren8
                case hyn8 => (rintro u ⟨s0, s1, s2, s3, s4, s5, -⟩; go_simp <;> with_reducible rfl)
                try simp only [Act.put, List.setIfInBounds_toArray, List.set_cons_zero, List.set_cons_succ]
                refine wpAnyH_take (i := 9) (oi := _) (v := ?_) (by simp only [List.getElem?_toArray, List.getElem?_cons_succ, List.getElem?_cons_zero]; rfl) (by kernel_rfl) (by kernel_rfl) (by kernel_rfl) (by exact fun _ _ _ h => h) (Or.inl ⟨by rfl, ?hyn9⟩) (by assumption) ?ren9
                case hyn9 => (rintro u ⟨s0, s1, s2, s3, s4, s5, -⟩; go_simp <;> with_reducible rfl)
                try simp only [Act.put, List.setIfInBounds_toArray, List.set_cons_zero, List.set_cons_succ]
                refine wpAnyH_take (i := 10) (oi := _) (v := ?_) (by simp only [List.getElem?_toArray, List.getElem?_cons_succ, List.getElem?_cons_zero]; rfl) (by kernel_rfl) (by kernel_rfl) (by kernel_rfl) (by exact fun _ _ _ h => h) (Or.inl ⟨by rfl, ?hyn10⟩) (by assumption) ?ren10
                case hyn10 => (rintro u ⟨s0, s1, s2, s3, s4, s5, -⟩; go_simp <;> with_reducible rfl)
                try simp only [Act.put, List.setIfInBounds_toArray, List.set_cons_zero, List.set_cons_succ]
                refine wpAnyH_take (i := 11) (oi := _) (v := ?_) (by simp only [List.getElem?_toArray, List.getElem?_cons_succ, List.getElem?_cons_zero]; rfl) (by kernel_rfl) (by kernel_rfl) (by kernel_rfl) (by exact fun _ _ _ h => h) (Or.inl ⟨by rfl, ?hyn11⟩) (by assumption) ?ren11
                case hyn11 => (rintro u ⟨s0, s1, s2, s3, s4, s5, -⟩; go_simp <;> with_reducible rfl)
                try simp only [Act.put, List.setIfInBounds_toArray, List.set_cons_zero, List.set_cons_succ]
                refine wpAnyH_take (i := 12) (oi := _) (v := ?_) (by simp only [List.getElem?_toArray, List.getElem?_cons_succ, List.getElem?_cons_zero]; rfl) (by kernel_rfl) (by kernel_rfl) (by kernel_rfl) (by exact fun _ _ _ h => h) (Or.inl ⟨by rfl, ?hyn12⟩) (by assumption) ?ren12
                case hyn12 => (rintro u ⟨s0, s1, s2, s3, s4, s5, -⟩; go_simp <;> with_reducible rfl)
                try simp only [Act.put, List.setIfInBounds_toArray, List.set_cons_zero, List.set_cons_succ]
                refine wpAnyH_take (i := 13) (oi := _) (v := ?_) (by simp only [List.getElem?_toArray, List.getElem?_cons_succ, List.getElem?_cons_zero]; rfl) (by kernel_rfl) (by kernel_rfl) (by kernel_rfl) (by exact fun _ _ _ h => h) (Or.inl ⟨by rfl, ?hyn13⟩) (by assumption) ?ren13
                case hyn13 => (rintro u ⟨s0, s1, s2, s3, s4, s5, -⟩; go_simp <;> with_reducible rfl)
                try simp only [Act.put, List.setIfInBounds_toArray, List.set_cons_zero, List.set_cons_succ]
                refine wpAnyH_take (i := 14) (oi := _) (v := ?_) (by simp only [List.getElem?_toArray, List.getElem?_cons_succ, List.getElem?_cons_zero]; rfl) (by kernel_rfl) (by kernel_rfl) (by kernel_rfl) (by exact fun _ _ _ h => h) (Or.inl ⟨by rfl, ?hyn14⟩) (by assumption) ?ren14
                case hyn14 => (rintro u ⟨s0, s1, s2, s3, s4, s5, -⟩; go_simp <;> with_reducible rfl)
                try simp only [Act.put, List.setIfInBounds_toArray, List.set_cons_zero, List.set_cons_succ]
                refine wpAnyH_take (i := 15) (oi := _) (v := ?_) (by simp only [List.getElem?_toArray, List.getElem?_cons_succ, List.getElem?_cons_zero]; rfl) (by kernel_rfl) (by kernel_rfl) (by kernel_rfl) (by exact fun _ _ _ h => h) (Or.inl ⟨by rfl, ?hyn15⟩) (by assumption) ?ren15
                case hyn15 => (rintro u ⟨s0, s1, s2, s3, s4, s5, -⟩; go_simp <;> with_reducible rfl)
                try simp only [Act.put, List.setIfInBounds_toArray, List.set_cons_zero, List.set_cons_succ]
                refine wpAnyH_take (i := 16) (oi := _) (v := ?_) (by simp only [List.getElem?_toArray, List.getElem?_cons_succ, List.getElem?_cons_zero]; rfl) (by kernel_rfl) (by kernel_rfl) (by kernel_rfl) (by exact fun _ _ _ h => h) (Or.inl ⟨by rfl, ?hyn16⟩) (by assumption) ?ren16
                case hyn16 => (rintro u ⟨s0, s1, s2, s3, s4, s5, -⟩; go_simp <;> with_reducible rfl)
                try simp only [Act.put, List.setIfInBounds_toArray, List.set_cons_zero, List.set_cons_succ]
                refine wpAnyH_take (i := 17) (oi := _) (v := ?_) (by simp only [List.getElem?_toArray, List.getElem?_cons_succ, List.getElem?_cons_zero]; rfl) (by kernel_rfl) (by kernel_rfl) (by kernel_rfl) (by exact fun _ _ _ h => h) (Or.inl ⟨by rfl, ?hyn17⟩) (by assumption) ?ren17
                case hyn17 => (rintro u ⟨s0, s1, s2, s3, s4, s5, -⟩; go_simp <;> with_reducible rfl)
                try simp only [Act.put, List.setIfInBounds_toArray, List.set_cons_zero, List.set_cons_succ]
                refine wpAnyH_done (by kernel_rfl) ?_ _

                have HE := Lib.hid HQ.out.2.2.2.2.2.2
                clear hHeld HQ
                go_wp2
                go_roundw
                case rel => exact ⟨kk + 1, by omega, by go_num, HE.out⟩
                case measure => simp [intOf]; omega
              · obtain rfl : kk = 8 := by omega
                go_wp2
                go_roundw
                case rel => exact ⟨j + 1, t2, by omega, by go_num, HN.out, HK.out.drop.drop.drop⟩
                case measure => simp [intOf]; omega
    · obtain rfl : j = q := by omega
      go_wp2
      go_ret
      exact ⟨rfl, HS.out.bel⟩
theorem apart_int (l : List Act) (A : Option Addr) (m c : Nat) (x : Int) (hx : 0 ≤ x) (hx2 : x < 256) (w : World) (hn : l.length = m) (hc : m ≤ c) (hm : c ≤ 9223372036854775807) (hr : Acts w w.heap.size A l) :
    Calls Try.prog 4 #[.slice A m c, .int .u8 x] w fun e w' => e = .returned (.bool true) ∧ Below w.heap.size w w' := by
  obtain ⟨n, rfl⟩ : ∃ n : Nat, x = (n : Int) := ⟨x.toNat, by omega⟩
  exact apart_walk l A m c n (by omega) w hn hc hm hr
end Go.Proofs.Ytnahccdjeilboaa.Prc
namespace Go.Proofs.Ytnahccdjeilboaa
open Go.RowKit Go.ChangeShapes Go.WideShapes Go.ChangeAt Prc

theorem apart_contract (H : Type) (enc : TypeId × Value → H) (W : World) (base : Nat) (args : Array Value) (ds gs : List (DataW H)) (before : List MemPlace)
    (hval : ∀ (j : Nat) t v, Try.f4.params[j]? = some t → args[j]? = some v → Value.okWide Try.prog W .any base t v)
    (hW : DataW.Whole enc Try.prog Try.f4.params.toList Rows.procApartSpec.vars false W args.toList ds gs before) :
    Calls Try.prog 4 args W fun e W' => ∃ v, e = .returned v ∧ Rows.procApartSpec.post enc Try.prog Try.f4 false true false false W args v W' := by
  have hW' := hW
  have hlt : ∀ x ∈ before, x.block < W.heap.size := fun x hx => hW.lt x hx
  obtain ⟨p, q, hA0, hV, rfl, _, _⟩ := hW
  have hA : DataW.TrodAll enc Try.prog W 0 (fun _ => true) true Try.f4.params.toList args.toList ds p := hA0
  rw [Try.params4] at hA hval
  obtain ⟨v0, vs0, d0, ds0, p0, q0, hargs, rfl, rfl, h0, r0⟩ := trodAll_cons hA
  obtain ⟨v1, vs1, d1, ds1, p1, q1, rfl, rfl, rfl, h1, r1⟩ := trodAll_cons r0
  obtain ⟨rfl, rfl, rfl⟩ := trodAll_nil r1
  obtain rfl : args = #[v0, v1] := by cases args; simp_all
  obtain ⟨rfl, rfl⟩ := trodVars_none hV
  clear hA0
  obtain ⟨A0, n0, c0, l0, rfl, hn0, hc0, hm0, hr0⟩ := open_actsL (hval 0 22 v0 rfl rfl) h0 (fun x hx => hlt x (by simp [hx]))
  unfold maxLen at hm0
  obtain ⟨a1, rfl, rfl, rfl, wa1⟩ := open_int Try.underlying5 (hval 1 5 v1 rfl rfl) h1
  have bd1 := bounds_u8 wa1
  refine (apart_int l0 A0 n0 c0 a1 (by omega) (by omega) W hn0 hc0 (by omega) hr0).mono fun e W' ⟨he, hb⟩ => ?_
  subst he
  exact ⟨_, rfl, law_post laid (by kernel_rfl) Try.underlying4 (by rw [Try.params4]; decide +kernel) rfl hW' ⟨rfl, rfl, rfl⟩ hb⟩

set_option maxRecDepth 100000 in
theorem apart_lifted (os : Os) (started : os.Started) (H : Type) (enc : TypeId × Value → H) :
    ReturnsInHanded {} Try.checked os 4 .any (Rows.procApartSpec.pre6 enc Try.prog Try.f4 Rows.procApartRow.domain false) (Rows.procApartSpec.post enc Try.prog Try.f4 false true false false) := by
  refine returnsInHanded_of_change (C := Try.checked) own started (by kernel_rfl) Try.func4
    (ChangeSpec.witness6 (enc := enc) (C := Try.checked) false ⟨#[], #[.slice none 0 0, .int .u8 0], []⟩ 8 (by kernel_rfl) (by kernel_rfl) (by kernel_rfl) (by kernel_rfl)) ?_
  intro W base args ds gs before hval hW _ _
  exact apart_contract H enc W base args ds gs before hval hW

/-- ProcApart is true for every input. -/
theorem apart_holds : Rows.ProcApartSaid :=
  OpenClaim.holds_of_wide 4 Try.f4 rfl rfl rfl rfl rfl rfl rfl ⟨rfl, rfl, rfl, rfl, rfl⟩ rfl rfl rfl rfl rfl (by kernel_rfl) Try.func4 (by kernel_rfl)
    (of_decide_eq_true (by kernel_rfl)) (by unfold Func.isWrapper; first | (rw [if_pos (by decide +kernel)]; kernel_rfl) | (rw [if_neg (by decide +kernel)]; exact ⟨rfl, rfl⟩))
    (fun os started H enc _ => apart_lifted os started H enc)
end Go.Proofs.Ytnahccdjeilboaa
