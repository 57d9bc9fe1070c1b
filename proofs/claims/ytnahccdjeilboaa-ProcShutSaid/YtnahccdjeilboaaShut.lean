/-
  Statement ProcShut: when all that is open is closed nothing is held, and each inode was told as often as it was open. No condition.
-/
import Derived.Test.YtnahccdjeilboaaG2
import Derived.Deep.RegionHeld3
namespace Go.Proofs.Ytnahccdjeilboaa.Prc
open Go.RowKit Go.ChangeShapes Go.WideShapes Go.ChangeAt Apart
attribute [local go_sem ↓] Go.wp_at_zero Go.wp_at_succ

/-! On paper. -/
/-- With the first m closed. -/
def shut (t : Tb) (m : Nat) : Tb := { t with fil := fun k => if k < m then none else t.fil k }
theorem shut_zero (t : Tb) : shut t 0 = t := by
  unfold shut
  simp
theorem shut_ok {t : Tb} (h : t.Ok) (m : Nat) : (shut t m).Ok := by
  refine ⟨h.lo, h.hi, h.lab, fun k hk => ?_, fun k x hx => ?_⟩
  · show (if k < m then none else t.fil k) = none
    split
    · rfl
    · exact h.zero k hk
  · have hx : (if k < m then none else t.fil k) = some x := hx
    split at hx
    · cases hx
    · exact h.rng k x hx
theorem shut_at {t : Tb} (hn : t.n = 8) {p fd : Nat} (hp : p < 8) (hf : fd < 8) : (shut t (p * 8 + fd)).at_ (p : Int) (fd : Int) = t.fil (p * 8 + fd) := by
  unfold Tb.at_
  rw [show (shut t (p * 8 + fd)).n = 8 from hn, has_of hp, fd_of hf, ix_nat]
  simp [shut]
theorem shut_succ (t : Tb) (m : Nat) : ({ shut t m with fil := upd (shut t m).fil m none } : Tb) = shut t (m + 1) := by
  unfold shut
  simp only [Tb.mk.injEq, true_and]
  funext k
  unfold upd
  by_cases h1 : k = m
  · rw [if_pos h1, if_pos (by omega)]
  · rw [if_neg h1]
    show (if k < m then none else t.fil k) = _
    by_cases h2 : k < m
    · rw [if_pos h2, if_pos (by omega)]
    · rw [if_neg h2, if_neg (by omega)]
theorem shut_same {t : Tb} {m : Nat} (h : t.fil m = none) : shut t m = shut t (m + 1) := by
  unfold shut
  simp only [Tb.mk.injEq, true_and]
  funext k
  by_cases h1 : k < m
  · rw [if_pos h1, if_pos (by omega)]
  · rw [if_neg h1]
    by_cases h2 : k = m
    · rw [if_pos (by omega), h2, h]
    · rw [if_neg (by omega)]
theorem shut_close_some {t : Tb} (hn : t.n = 8) {p fd : Nat} (hp : p < 8) (hf : fd < 8) {x : Int × Int} (hx : t.fil (p * 8 + fd) = some x) : closeA (shut t (p * 8 + fd)) (p : Int) (fd : Int) = (x.1, 0, shut t (p * 8 + fd + 1)) ∧ fdA (shut t (p * 8 + fd)) (p : Int) (fd : Int) = (x, 0) := by
  have h := (shut_at hn hp hf).trans hx
  unfold closeA fdA
  rw [h, ix_nat]
  exact ⟨by rw [shut_succ], rfl⟩
theorem shut_close_none {t : Tb} (hn : t.n = 8) {p fd : Nat} (hp : p < 8) (hf : fd < 8) (hx : t.fil (p * 8 + fd) = none) : closeA (shut t (p * 8 + fd)) (p : Int) (fd : Int) = (0, 2, shut t (p * 8 + fd + 1)) ∧ fdA (shut t (p * 8 + fd)) (p : Int) (fd : Int) = ((0, 0), 2) := by
  have h := (shut_at hn hp hf).trans hx
  have hw : (shut t (p * 8 + fd)).why (p : Int) (fd : Int) = 2 := by
    unfold Tb.why
    rw [show (shut t (p * 8 + fd)).n = 8 from hn, has_of hp, h]
    rfl
  unfold closeA fdA
  rw [h]
  exact ⟨by rw [hw, shut_same hx], by rw [hw]⟩
theorem shut_all (t : Tb) (i : Int) : holdsA (shut t 64) i = 0 := by
  have : ∀ m, m ≤ 64 → cnt (shut t 64) i m = 0 := fun m hm => by
    induction m with
    | zero => rfl
    | succ m ih =>
      rw [cnt_succ, ih (by omega), show (shut t 64).fil m = none from if_pos (by omega)]
      rfl
  exact this 64 (Nat.le_refl _)
/-- Sixty-four numbers. -/
def numL (f : Nat → Int) : List Value := (List.range 64).map fun k => .int .i64 (f k)
theorem numL_get (f : Nat → Int) {k : Nat} (h : k < 64) : (numL f)[k]? = some (.int .i64 (f k)) := by
  unfold numL
  rw [List.getElem?_map, List.getElem?_range h]
  rfl
theorem numL_set (f : Nat → Int) {k : Nat} (h : k < 64) (x : Int) : (numL f).set k (.int .i64 x) = numL (upd f k x) := by
  apply List.ext_getElem?
  intro j
  rw [List.getElem?_set]
  by_cases hj : j < 64
  · have hr : (numL (upd f k x))[j]? = some (.int .i64 (upd f k x j)) := numL_get _ hj
    rw [hr]
    by_cases e : k = j
    · subst e
      rw [if_pos rfl, if_pos (by simpa [numL] using h), upd_same]
    · rw [if_neg e, numL_get f hj, upd_other _ _ (Ne.symm e)]
  · rw [List.getElem?_eq_none (l := numL (upd f k x)) (by simp [numL]; omega), if_neg (by omega), List.getElem?_eq_none (by simp [numL]; omega)]
theorem numL_congr {f g : Nat → Int} (h : ∀ k, k < 64 → f k = g k) : numL f = numL g := List.map_congr_left fun k hk => by rw [h k (List.mem_range.1 hk)]
/-- How many of each among the first j inodes. -/
def manyF (t : Tb) (j : Nat) (k : Nat) : Int := if k < j then (holdsA t (k : Int) : Int) else 0
def toldF (t : Tb) (m : Nat) (k : Nat) : Int := (cnt t (k : Int) m : Int)
theorem many_succ (t : Tb) (j : Nat) : upd (manyF t j) j (holdsA t (j : Int) : Int) = manyF t (j + 1) := by
  funext k
  unfold upd manyF
  by_cases h : k = j
  · rw [if_pos h, if_pos (by omega), h]
  · rw [if_neg h]
    by_cases h2 : k < j
    · rw [if_pos h2, if_pos (by omega)]
    · rw [if_neg h2, if_neg (by omega)]
theorem told_none {t : Tb} {m : Nat} (h : t.fil m = none) : toldF t m = toldF t (m + 1) := by
  funext k
  unfold toldF
  rw [cnt_none h]
theorem told_some {t : Tb} {m : Nat} {x : Int × Int} (h : t.fil m = some x) {i : Nat} (hi : x.1 = (i : Int)) : upd (toldF t m) i (toldF t m i + 1) = toldF t (m + 1) := by
  funext k
  unfold upd toldF
  by_cases e : k = i
  · rw [if_pos e, e, ← hi, cnt_yes h]
    push_cast
    rfl
  · rw [if_neg e, cnt_no h (by rw [hi]; omega)]
/-! The walk. -/
/-- The two rows of numbers beside a table. -/
abbrev Fm (gm gt : Nat) (f h : Nat → Int) : Asr := star (star Emp (Bx gm 65 (numL f))) (Bx gt 65 (numL h))
theorem fm_lcl (gm gt : Nat) (f h : Nat → Int) : Lcl (Fm gm gt f h) := (emp_lcl.star (bx_lcl _ _ _)).star (bx_lcl _ _ _)
section
variable {W u w' : World} {b gm gt j : Nat} {t s : Tb} {f h : Nat → Int}
theorem St.many (H : St W b s (Fm gm gt f h) u) (hj : j < 64) : u.cell? ⟨gm, j, none⟩ = some (.int .i64 (f j)) ∧ u.frozen? ⟨gm, j, none⟩ = false ∧ gm < u.heap.size := ⟨(H.bk1.cell j).trans (numL_get _ hj), H.bk1.frozen j, H.bk1.lt⟩
theorem St.told (H : St W b s (Fm gm gt f h) u) (hj : j < 64) : u.cell? ⟨gt, j, none⟩ = some (.int .i64 (h j)) ∧ u.frozen? ⟨gt, j, none⟩ = false ∧ gt < u.heap.size := ⟨(H.bk.cell j).trans (numL_get _ hj), H.bk.frozen j, H.bk.lt⟩
theorem St.setMany (H : St W b s (Fm gm gt f h) u) (hj : j < 64) (x : Int) : St W b s (Fm gm gt (upd f j x) h) (u.setCell ⟨gm, j, none⟩ (.int .i64 x)) := by
  have := H.put1 emp_lcl j (.int .i64 x)
  rwa [numL_set f hj] at this
theorem St.setTold (H : St W b s (Fm gm gt f h) u) (hj : j < 64) (x : Int) : St W b s (Fm gm gt f (upd h j x)) (u.setCell ⟨gt, j, none⟩ (.int .i64 x)) := by
  have := H.put (emp_lcl.star (bx_lcl _ _ _)) j (.int .i64 x)
  rwa [numL_set h hj] at this
theorem St.sq {b : Nat} (H : St W b s (Fm gm gt (manyF t 64) (toldF t 64)) u) (hj : j < 64) : u.cell? ⟨gm, j, none⟩ = some (.int .i64 (holdsA t (j : Int) : Int)) ∧ u.cell? ⟨gt, j, none⟩ = some (.int .i64 (holdsA t (j : Int) : Int)) ∧ St W b s (Fm gm gt (manyF t 64) (toldF t 64)) u := by
  refine ⟨(H.many hj).1.trans ?_, (H.told hj).1.trans rfl, H⟩
  rw [show manyF t 64 j = (holdsA t (j : Int) : Int) from if_pos hj]
end
set_option maxRecDepth 100000 in
set_option maxHeartbeats 3200000 in
theorem shut_walk (l : List Act) (A : Option Addr) (m c : Nat) (w : World) (hn : l.length = m) (hc : m ≤ c) (hm : c ≤ 9223372036854775807) (hr : Acts w w.heap.size A l) :
    Calls Try.prog 7 #[.slice A m c] w fun e w' => e = .returned (.bool true) ∧ Below w.heap.size w w' := by
  obtain ⟨q, hq⟩ : ∃ q, q = min m 200 := ⟨_, rfl⟩
  have hqm : q ≤ m := by omega
  have hqc : q ≤ c := by omega
  have Hr := Lib.hid hr
  have Hn := Lib.hid hn
  have FEW := Lib.hid fun u => few_any m c A u hc hm
  rw [← hq] at FEW
  clear hq hr hn
  go_enter Try.func7, Try.ntmps7
  go_wp2_with fail
  refine (shown_any _).mono ?_
  rintro e w1 ⟨rfl, hb⟩
  have L := Lib.hid hb
  clear hb
  go_wp2_with fail
  refine (st_new (n := 8) L.out (by omega) (by omega)).mono ?_
  rintro e w2 ⟨b, rfl, hx⟩
  have H2 := Lib.hid hx
  clear hx L
  go_wp2_with (go_at_call 11; refine (FEW.out _).mono ?_; rintro e w' ⟨rfl, rfl⟩)
  go_loopw [32] (fun i wr => ∃ (j : Nat) (t : Tb), j ≤ q ∧ i = .int .i64 (j : Int) ∧ t.n = 8 ∧ St w b t Emp wr) (fun i _ => q - (intOf i).toNat)
  case atStart => exact ⟨0, empty 8, Nat.zero_le _, rfl, rfl, H2.out⟩
  case round =>
    obtain ⟨j, t, hj, rfl, ht, hS⟩ := hrel
    have HS := Lib.hid hS
    have HT := Lib.hid ht
    clear hS ht H2
    by_cases hlt : j < q
    · have hlt2 : (j : Int) < (q : Int) := by omega
      obtain ⟨bb, o, a, rfl, hbb, ha, hg, c0, c1, c2, c3, c4⟩ := (Hr.out.below HS.out.bel).at (i := j) (by rw [Hn.out]; omega)
      have hbr : bb < wr.heap.size := Nat.lt_of_lt_of_le hbb HS.out.bel.size
      have HA := Lib.hid (St.does (emp_lcl.star (bx_lcl _ _ _)) (HS.out.box emp_lcl 35 a.cells) a hg)
      have HN := Lib.hid ((does_n t a).trans HT.out)
      clear ha hg
      obtain ⟨k, p, fd, nn, la⟩ := a
      have HA : Hid (Calls Try.prog 12 #[.pointer (some ⟨b, 0, none⟩), .agg #[.int .u8 (k : Int), .int .i64 p, .int .i64 fd, .int .i64 nn, .int .u16 (la : Int)]] (wr.alloc (.cells #[.int .u8 (k : Int), .int .i64 p, .int .i64 fd, .int .i64 nn, .int .u16 (la : Int)] 35)) fun e w' => e = .returned (.tuple #[.int .i64 (doesA t ⟨k, p, fd, nn, la⟩).1, .int .i64 (doesA t ⟨k, p, fd, nn, la⟩).2.1]) ∧ St w b (doesA t ⟨k, p, fd, nn, la⟩).2.2 (star Emp (Bx wr.heap.size 35 [.int .u8 (k : Int), .int .i64 p, .int .i64 fd, .int .i64 nn, .int .u16 (la : Int)])) w') := HA
      have c0 : wr.cell? ⟨bb, o + j * 5, none⟩ = some (.int .u8 (k : Int)) := c0
      have c1 : wr.cell? ⟨bb, o + j * 5 + 1, none⟩ = some (.int .i64 p) := c1
      have c2 : wr.cell? ⟨bb, o + j * 5 + 2, none⟩ = some (.int .i64 fd) := c2
      have c3 : wr.cell? ⟨bb, o + j * 5 + 3, none⟩ = some (.int .i64 nn) := c3
      have c4 : wr.cell? ⟨bb, o + j * 5 + 4, none⟩ = some (.int .u16 (la : Int)) := c4
      generalize doesA t ⟨k, p, fd, nn, la⟩ = R at *
      go_wp2_with fail
      refine HA.out.mono ?_
      rintro e w4 ⟨rfl, hx⟩
      have H4 := Lib.hid hx.drop
      clear hx c0 c1 c2 c3 c4 HA
      go_wp2
      go_roundw
      case rel => exact ⟨j + 1, R.2.2, by omega, by go_num, HN.out, H4.out⟩
      case measure => simp [intOf]; omega
    · obtain rfl : j = q := by omega
      have e0 : numL (fun _ => 0) = numL (manyF t 0) := numL_congr fun k _ => by simp [manyF]
      have e1 : numL (fun _ => 0) = numL (toldF t 0) := numL_congr fun k _ => by simp [toldF, cnt]
      have HB := Lib.hid ((HS.out.box emp_lcl 65 (numL fun _ => 0)).box (emp_lcl.star (bx_lcl _ _ _)) 65 (numL fun _ => 0))
      rw [show (wr.alloc (.cells (numL fun _ => 0).toArray 65)).heap.size = wr.heap.size + 1 by simp] at HB
      have hB2 : Hid (Below wr.heap.size wr ((wr.alloc (.cells (numL fun _ => 0).toArray 65)).alloc (.cells (numL fun _ => 0).toArray 65))) := ((Below.refl _ wr).alloc (Nat.le_refl _) _).alloc (by simp) _
      obtain ⟨gm, hgm⟩ : ∃ gm, gm = wr.heap.size := ⟨_, rfl⟩
      obtain ⟨gt, hgt⟩ : ∃ gt, gt = wr.heap.size + 1 := ⟨_, rfl⟩
      rw [← hgt, ← hgm] at HB
      have Hgm := Lib.hid hgm
      have Hgt := Lib.hid hgt
      clear hgm hgt
      go_wp2
      rw [← Hgt.out, ← Hgm.out]
      refine (fun (key : ∀ u, u = ((wr.alloc (.cells (numL fun _ => 0).toArray 65)).alloc (.cells (numL fun _ => 0).toArray 65)) → Code.wp Try.prog _ _ _ u) => key _ rfl) (fun u hu => ?_)
      rw [← hu] at HB
      have HB : Hid (St w b t (Fm gm gt (manyF t 0) (toldF t 0)) u) := by
        show Hid (St w b t (star (star Emp (Bx gm 65 (numL (manyF t 0)))) (Bx gt 65 (numL (toldF t 0)))) u)
        rw [← e0, ← e1]
        exact HB
      clear hu e0 e1 hB2 Hgm Hgt HS
      go_loopw [40] (fun i wr => ∃ j : Nat, j ≤ 64 ∧ i = .int .i64 (j : Int) ∧ St w b t (Fm gm gt (manyF t j) (toldF t 0)) wr) (fun i _ => 64 - (intOf i).toNat)
      case atStart => exact ⟨0, Nat.zero_le _, rfl, HB.out⟩
      case round =>
        obtain ⟨j, hj, rfl, hS⟩ := hrel
        have HS := Lib.hid hS
        clear hS HB
        by_cases hj8 : j < 64
        · have hji : (j : Int) < 64 := by omega
          go_wp2_with fail
          refine (St.holds (fm_lcl ..) HS.out (j : Int)).mono ?_
          rintro e w7 ⟨rfl, -, hx⟩
          obtain ⟨k1, k2, k3⟩ := hx.many hj8
          have H7 := Lib.hid (many_succ t j ▸ hx.setMany hj8 (holdsA t (j : Int)))
          clear hx
          go_wp2
          go_roundw
          case rel => exact ⟨j + 1, by omega, by go_num, H7.out⟩
          case measure => simp [intOf]; omega
        · obtain rfl : j = 64 := by omega
          go_wp2
          rw [show ((64 : Nat) : Int) = 64 from rfl]
          go_loopw [49] (fun i wr => ∃ p : Nat, p ≤ 8 ∧ i = .int .i64 (p : Int) ∧ St w b (shut t (p * 8)) (Fm gm gt (manyF t 64) (toldF t (p * 8))) wr) (fun i _ => 8 - (intOf i).toNat)
          case atStart => exact ⟨0, Nat.zero_le _, rfl, by rw [Nat.zero_mul, shut_zero]; exact HS.out⟩
          case round =>
            obtain ⟨p, hp, rfl, hS⟩ := hrel
            have HP := Lib.hid hS
            clear hS HS
            by_cases hp8 : p < 8
            · have hpi : (p : Int) < 8 := by omega
              go_wp2
              go_loopw [52] (fun i wr => ∃ fd : Nat, fd ≤ 8 ∧ i = .int .i64 (fd : Int) ∧ St w b (shut t (p * 8 + fd)) (Fm gm gt (manyF t 64) (toldF t (p * 8 + fd))) wr) (fun i _ => 8 - (intOf i).toNat)
              case atStart => exact ⟨0, Nat.zero_le _, rfl, HP.out⟩
              case round =>
                obtain ⟨fd, hfd, rfl, hS⟩ := hrel
                have HF := Lib.hid hS
                clear hS HP
                by_cases hf8 : fd < 8
                · have hfi : (fd : Int) < 8 := by omega
                  have HFD := Lib.hid (St.fd (fm_lcl ..) HF.out (p : Int) (fd : Int))
                  cases hx : t.fil (p * 8 + fd) with
                  | none =>
                    obtain ⟨e1, e2⟩ := shut_close_none HT.out hp8 hf8 hx
                    have E1 := Lib.hid e1
                    have E3 := Lib.hid (told_none hx)
                    rw [e2] at HFD
                    clear e1 e2 hx
                    go_wp2_with fail
                    refine HFD.out.mono ?_
                    rintro e w7 ⟨rfl, -, hx⟩
                    have H7 := Lib.hid (St.close ((fm_lcl ..).star (bx_lcl ..)) (hx.box (fm_lcl ..) 40 [.int .i64 0, .int .i64 0]) (p : Int) (fd : Int))
                    rw [E1.out] at H7
                    clear hx HFD
                    go_wp2_with fail
                    refine H7.out.mono ?_
                    rintro e w8 ⟨rfl, hx⟩
                    have H8 := Lib.hid hx.drop
                    clear hx H7
                    rw [E3.out] at H8
                    go_wp2
                    go_roundw
                    case rel => exact ⟨fd + 1, by omega, by go_num, H8.out⟩
                    case measure => simp [intOf]; omega
                  | some x =>
                    obtain ⟨e1, e2⟩ := shut_close_some HT.out hp8 hf8 hx
                    obtain ⟨i1, i2⟩ := HF.out.1.rng (p * 8 + fd) x (by rw [← hx]; exact if_neg (by omega))
                    obtain ⟨x1, x2⟩ := x
                    obtain ⟨i, rfl⟩ : ∃ i : Nat, x1 = (i : Int) := ⟨x1.toNat, by have : 0 ≤ x1 := i1; omega⟩
                    have i3 : i < 64 := by have : (i : Int) ≤ 63 := i2; omega
                    have E1 := Lib.hid e1
                    have E3 := Lib.hid (told_some hx (i := i) rfl)
                    have E4 := Lib.hid (cnt_le t (i : Int) (p * 8 + fd))
                    rw [e2] at HFD
                    clear e1 e2 hx i1 i2
                    go_wp2_with fail
                    refine HFD.out.mono ?_
                    rintro e w7 ⟨rfl, -, hx⟩
                    have H7 := Lib.hid (St.close ((fm_lcl ..).star (bx_lcl ..)) (hx.box (fm_lcl ..) 40 [.int .i64 (i : Int), .int .i64 x2]) (p : Int) (fd : Int))
                    rw [E1.out] at H7
                    obtain ⟨gf, hgf⟩ : ∃ gf, gf = w7.heap.size := ⟨_, rfl⟩
                    rw [← hgf] at H7
                    have Hgf := Lib.hid hgf
                    clear hx HFD hgf
                    go_wp2_with fail
                    rw [← Hgf.out]
                    refine H7.out.mono ?_
                    rintro e w8 ⟨rfl, hx⟩
                    have d0 : w8.cell? ⟨gf, 0, none⟩ = some (.int .i64 (i : Int)) := hx.bk.cell 0
                    obtain ⟨k1, k2, k3⟩ := hx.drop.told i3
                    replace k1 : w8.cell? ⟨gt, i, none⟩ = some (.int .i64 (cnt t (i : Int) (p * 8 + fd) : Int)) := k1
                    have k9 : cnt t (i : Int) (p * 8 + fd) ≤ 64 := Nat.le_trans E4.out (by omega)
                    have H8 := Lib.hid (E3.out ▸ hx.drop.setTold i3 (toldF t (p * 8 + fd) i + 1))
                    have H8 : Hid (St w b (shut t (p * 8 + fd + 1)) (Fm gm gt (manyF t 64) (toldF t (p * 8 + fd + 1))) (w8.setCell ⟨gt, i, none⟩ (.int .i64 ((cnt t (i : Int) (p * 8 + fd) : Int) + 1)))) := H8
                    clear hx H7
                    generalize cnt t (i : Int) (p * 8 + fd) = cc at *
                    have i4 : (i : Int) < 64 := by omega
                    have i5 : ¬ (63 : Int) < (i : Int) := by omega
                    go_wp2
                    go_roundw
                    case rel => exact ⟨fd + 1, by omega, by go_num, H8.out⟩
                    case measure => simp [intOf]; omega
                · obtain rfl : fd = 8 := by omega
                  have HF : Hid (St w b (shut t ((p + 1) * 8)) (Fm gm gt (manyF t 64) (toldF t ((p + 1) * 8))) wr) := by rw [Nat.add_mul, Nat.one_mul]; exact HF
                  go_wp2
                  go_roundw
                  case rel => exact ⟨p + 1, by omega, by go_num, HF.out⟩
                  case measure => simp [intOf]; omega
            · obtain rfl : p = 8 := by omega
              go_wp2
              rw [show ((8 : Nat) : Int) = 8 from rfl]
              go_loopw [105] (fun i wr => ∃ j : Nat, j ≤ 64 ∧ i = .int .i64 (j : Int) ∧ St w b (shut t 64) (Fm gm gt (manyF t 64) (toldF t 64)) wr) (fun i _ => 64 - (intOf i).toNat)
              case atStart => exact ⟨0, Nat.zero_le _, rfl, HP.out⟩
              case round =>
                obtain ⟨j, hj, rfl, hS⟩ := hrel
                have HJ := Lib.hid hS
                clear hS HP
                by_cases hj8 : j < 64
                · have hji : (j : Int) < 64 := by omega
                  have HQ := Lib.hid ((HJ.out.later (fm_lcl ..) (Below.refl _ wr).drew).sq hj8)
                  go_wp2_with fail
                  refine wp_region_held_drew (S := fun u => u.cell? ⟨gm, j, none⟩ = some (.int .i64 (holdsA t (j : Int) : Int)) ∧ u.cell? ⟨gt, j, none⟩ = some (.int .i64 (holdsA t (j : Int) : Int)) ∧ St w b (shut t 64) (Fm gm gt (manyF t 64) (toldF t 64)) u) (by kernel_rfl) HQ.out (fun hHeld => ?_)
                  refine wpAnyH_take (i := 0) (oi := _) (v := ?_) (by simp only [List.getElem?_toArray, List.getElem?_cons_zero]; rfl) (by kernel_rfl) (by kernel_rfl) (by kernel_rfl) (by exact fun _ _ _ h => h) (Or.inl ⟨by rfl, ?hyz0⟩) (by assumption) ?rez0
                  case hyz0 => (rintro u ⟨s0, s1, -⟩; go_simp <;> with_reducible rfl)
                  try simp only [Act.put, List.setIfInBounds_toArray, List.set_cons_zero, List.set_cons_succ]
                  refine wpAnyH_take (i := 1) (oi := _) (v := ?_) (by simp only [List.getElem?_toArray, List.getElem?_cons_succ, List.getElem?_cons_zero]; rfl) (by kernel_rfl) (by kernel_rfl) (by kernel_rfl) (by exact fun _ _ _ h => h) (Or.inl ⟨by rfl, ?hyz1⟩) (by assumption) ?rez1
                  case hyz1 => (rintro u ⟨s0, s1, -⟩; go_simp <;> with_reducible rfl)
                  try simp only [Act.put, List.setIfInBounds_toArray, List.set_cons_zero, List.set_cons_succ]
                  refine wpAnyH_take (i := 2) (oi := _) (v := ?_) (by simp only [List.getElem?_toArray, List.getElem?_cons_succ, List.getElem?_cons_zero]; rfl) (by kernel_rfl) (by kernel_rfl) (by kernel_rfl) (by exact fun _ _ _ h => h) (Or.inl ⟨by rfl, ?hyz2⟩) (by assumption) ?rez2
                  case hyz2 => (rintro u ⟨s0, s1, -⟩; go_simp <;> with_reducible rfl)
                  try simp only [Act.put, List.setIfInBounds_toArray, List.set_cons_zero, List.set_cons_succ]
                  refine wpAnyH_take (i := 3) (oi := _) (v := ?_) (by simp only [List.getElem?_toArray, List.getElem?_cons_succ, List.getElem?_cons_zero]; rfl) (by kernel_rfl) (by kernel_rfl) (by kernel_rfl) (by exact fun _ _ _ h => h) (Or.inl ⟨by rfl, ?hyz3⟩) (by assumption) ?rez3
                  case hyz3 => (rintro u ⟨s0, s1, -⟩; go_simp <;> with_reducible rfl)
                  try simp only [Act.put, List.setIfInBounds_toArray, List.set_cons_zero, List.set_cons_succ]
                  refine wpAnyH_take (i := 4) (oi := _) (v := ?_) (by simp only [List.getElem?_toArray, List.getElem?_cons_succ, List.getElem?_cons_zero]; rfl) (by kernel_rfl) (by kernel_rfl) (by kernel_rfl) (by exact fun _ _ _ h => h) (Or.inl ⟨by rfl, ?hyz4⟩) (by assumption) ?rez4
                  case hyz4 => (rintro u ⟨s0, s1, -⟩; go_simp <;> with_reducible rfl)
                  try simp only [Act.put, List.setIfInBounds_toArray, List.set_cons_zero, List.set_cons_succ]
                  refine wpAnyH_take (i := 5) (oi := _) (v := ?_) (by simp only [List.getElem?_toArray, List.getElem?_cons_succ, List.getElem?_cons_zero]; rfl) (by kernel_rfl) (by kernel_rfl) (by kernel_rfl) (by exact fun _ _ _ h => h) (Or.inl ⟨by rfl, ?hyz5⟩) (by assumption) ?rez5
                  case hyz5 => (rintro u ⟨s0, s1, -⟩; go_simp <;> with_reducible rfl)
                  try simp only [Act.put, List.setIfInBounds_toArray, List.set_cons_zero, List.set_cons_succ]
                  refine wpAnyH_take (i := 6) (oi := _) (v := ?_) (by simp only [List.getElem?_toArray, List.getElem?_cons_succ, List.getElem?_cons_zero]; rfl) (by kernel_rfl) (by kernel_rfl) (by kernel_rfl) (by exact fun _ _ _ h => h) (Or.inl ⟨by rfl, ?hyz6⟩) (by assumption) ?rez6
                  case hyz6 => (rintro u ⟨s0, s1, -⟩; go_simp <;> with_reducible rfl)
                  try simp only [Act.put, List.setIfInBounds_toArray, List.set_cons_zero, List.set_cons_succ]
                  refine wpAnyH_take (i := 7) (oi := _) (v := ?_) (by simp only [List.getElem?_toArray, List.getElem?_cons_succ, List.getElem?_cons_zero]; rfl) (by kernel_rfl) (by kernel_rfl) (by kernel_rfl) (by exact fun _ _ _ h => h) (Or.inl ⟨by rfl, ?hyz7⟩) (by assumption) ?rez7
                  case hyz7 => (rintro u ⟨s0, s1, -⟩; go_simp <;> with_reducible rfl)
                  try simp only [Act.put, List.setIfInBounds_toArray, List.set_cons_zero, List.set_cons_succ]
                  refine wpAnyH_take (i := 8) (oi := _) (v := ?_) (by simp only [List.getElem?_toArray, List.getElem?_cons_succ, List.getElem?_cons_zero]; rfl) (by kernel_rfl) (by kernel_rfl) (by kernel_rfl) (by exact fun _ _ _ h => h) (Or.inl ⟨by rfl, ?hyz8⟩) (by assumption) ?rez8
                  case hyz8 => (rintro u ⟨s0, s1, -⟩; go_simp <;> with_reducible rfl)
                  try simp only [Act.put, List.setIfInBounds_toArray, List.set_cons_zero, List.set_cons_succ]
                  refine wpAnyH_take (i := 9) (oi := _) (v := ?_) (by simp only [List.getElem?_toArray, List.getElem?_cons_succ, List.getElem?_cons_zero]; rfl) (by kernel_rfl) (by kernel_rfl) (by kernel_rfl) (by exact fun _ _ _ h => h) (Or.inl ⟨by rfl, ?hyz9⟩) (by assumption) ?rez9
                  case hyz9 => (rintro u ⟨s0, s1, -⟩; go_simp <;> with_reducible rfl)
                  try simp only [Act.put, List.setIfInBounds_toArray, List.set_cons_zero, List.set_cons_succ]
                  refine wpAnyH_ready (rs := [10]) (by kernel_rfl) (by simp) ?_
                  refine AllReadyH.cons (o := _) (by simp only [List.getElem?_toArray, List.getElem?_cons_succ, List.getElem?_cons_zero]; rfl) (fun K hK => ?_) AllReadyH.nil
                  go_simp
                  refine (St.holds (fm_lcl ..) hHeld.2.2 (j : Int)).mono ?_
                  rintro e w10 ⟨rfl, hb, hx⟩
                  rw [shut_all]
                  have HX := Lib.hid (hx.sq hj8)
                  clear hb hHeld hx
                  go_simp
                  refine hK.out _ _ HX.out (fun hHeld => ?_)
                  clear hK K HX
                  try simp only [Act.put, List.setIfInBounds_toArray, List.set_cons_zero, List.set_cons_succ]
                  refine wpAnyH_take (i := 11) (oi := _) (v := ?_) (by simp only [List.getElem?_toArray, List.getElem?_cons_succ, List.getElem?_cons_zero]; rfl) (by kernel_rfl) (by kernel_rfl) (by kernel_rfl) (by exact fun _ _ _ h => h) (Or.inl ⟨by rfl, ?hyz11⟩) (by assumption) ?rez11
                  case hyz11 => (rintro u ⟨s0, s1, -⟩; go_simp <;> with_reducible rfl)
                  try simp only [Act.put, List.setIfInBounds_toArray, List.set_cons_zero, List.set_cons_succ]
                  refine wpAnyH_take (i := 12) (oi := _) (v := ?_) (by simp only [List.getElem?_toArray, List.getElem?_cons_succ, List.getElem?_cons_zero]; rfl) (by kernel_rfl) (by kernel_rfl) (by kernel_rfl) (by exact fun _ _ _ h => h) (Or.inl ⟨by rfl, ?hyz12⟩) (by assumption) ?rez12
                  case hyz12 => (rintro u ⟨s0, s1, -⟩; go_simp <;> with_reducible rfl)
                  try simp only [Act.put, List.setIfInBounds_toArray, List.set_cons_zero, List.set_cons_succ]
                  refine wpAnyH_done (by kernel_rfl) ?_ _

                  have HE := Lib.hid hHeld.2.2
                  clear hHeld
                  go_wp2
                  go_roundw
                  case rel => exact ⟨j + 1, by omega, by go_num, HE.out⟩
                  case measure => simp [intOf]; omega
                · obtain rfl : j = 64 := by omega
                  go_wp2
                  go_ret
                  exact ⟨rfl, HJ.out.bel⟩
end Go.Proofs.Ytnahccdjeilboaa.Prc
namespace Go.Proofs.Ytnahccdjeilboaa
open Go.RowKit Go.ChangeShapes Go.WideShapes Go.ChangeAt Prc

theorem shut_contract (H : Type) (enc : TypeId × Value → H) (W : World) (base : Nat) (args : Array Value) (ds gs : List (DataW H)) (before : List MemPlace)
    (hval : ∀ (j : Nat) t v, Try.f7.params[j]? = some t → args[j]? = some v → Value.okWide Try.prog W .any base t v)
    (hW : DataW.Whole enc Try.prog Try.f7.params.toList Rows.procShutSpec.vars false W args.toList ds gs before) :
    Calls Try.prog 7 args W fun e W' => ∃ v, e = .returned v ∧ Rows.procShutSpec.post enc Try.prog Try.f7 false true false false W args v W' := by
  have hW' := hW
  have hlt : ∀ x ∈ before, x.block < W.heap.size := fun x hx => hW.lt x hx
  obtain ⟨p, q, hA0, hV, rfl, _, _⟩ := hW
  have hA : DataW.TrodAll enc Try.prog W 0 (fun _ => true) true Try.f7.params.toList args.toList ds p := hA0
  rw [Try.params7] at hA hval
  obtain ⟨v0, vs0, d0, ds0, p0, q0, hargs, rfl, rfl, h0, r0⟩ := trodAll_cons hA
  obtain ⟨rfl, rfl, rfl⟩ := trodAll_nil r0
  obtain rfl : args = #[v0] := by cases args; simp_all
  obtain ⟨rfl, rfl⟩ := trodVars_none hV
  clear hA0
  obtain ⟨A0, n0, c0, l0, rfl, hn0, hc0, hm0, hr0⟩ := open_actsL (hval 0 22 v0 rfl rfl) h0 (fun x hx => hlt x (by simp [hx]))
  unfold maxLen at hm0
  refine (shut_walk l0 A0 n0 c0 W hn0 hc0 (by omega) hr0).mono fun e W' ⟨he, hb⟩ => ?_
  subst he
  exact ⟨_, rfl, law_post laid (by kernel_rfl) Try.underlying4 (by rw [Try.params7]; decide +kernel) rfl hW' ⟨rfl, rfl, rfl⟩ hb⟩

set_option maxRecDepth 100000 in
theorem shut_lifted (os : Os) (started : os.Started) (H : Type) (enc : TypeId × Value → H) :
    ReturnsInHanded {} Try.checked os 7 .any (Rows.procShutSpec.pre6 enc Try.prog Try.f7 Rows.procShutRow.domain false) (Rows.procShutSpec.post enc Try.prog Try.f7 false true false false) := by
  refine returnsInHanded_of_change (C := Try.checked) own started (by kernel_rfl) Try.func7
    (ChangeSpec.witness6 (enc := enc) (C := Try.checked) false ⟨#[], #[.slice none 0 0], []⟩ 8 (by kernel_rfl) (by kernel_rfl) (by kernel_rfl) (by kernel_rfl)) ?_
  intro W base args ds gs before hval hW _ _
  exact shut_contract H enc W base args ds gs before hval hW

/-- ProcShut is true for every input. -/
theorem shut_holds : Rows.ProcShutSaid :=
  OpenClaim.holds_of_wide 7 Try.f7 rfl rfl rfl rfl rfl rfl rfl ⟨rfl, rfl, rfl, rfl, rfl⟩ rfl rfl rfl rfl rfl (by kernel_rfl) Try.func7 (by kernel_rfl)
    (of_decide_eq_true (by kernel_rfl)) (by unfold Func.isWrapper; first | (rw [if_pos (by decide +kernel)]; kernel_rfl) | (rw [if_neg (by decide +kernel)]; exact ⟨rfl, rfl⟩))
    (fun os started H enc _ => shut_lifted os started H enc)
end Go.Proofs.Ytnahccdjeilboaa
