/-
  Package intern's Retain and Release.
-/
import Derived.Test.YtdecllllcoflbaaX3
namespace Go.Proofs.Ytdecllllcoflbaa.Intern
open Go.RowKit

/-- Rows that a call hands back, in memory of their own. -/
def Given (w w' : World) (v : Value) (m : List Rw) : Prop := w'.ownsRow w.heap.size 37 2 v m.length (rowsV m) ∧ Below w.heap.size w w'
theorem given_nil {w w' : World} (hb : Below w.heap.size w w') : Given w w' (.slice none 0 0) [] := ⟨World.ownsRow_nil _ _ _ _, hb⟩
theorem given_block {w w' : World} {g : Nat} {m : List Rw} (hg : w.heap.size ≤ g) (hk : Bk w' g 37 (rowsV m)) (hm : m.length = 16) (hb : Below w.heap.size w w') : Given w w' (.slice (some ⟨g, 0, none⟩) 16 16) m :=
  ⟨by
    rw [hm]
    exact ⟨by rw [length_rowsV, hm], .inr ⟨g, 16, _, rfl, hg, hk, Nat.le_refl _, by decide, by simp [length_rowsV, hm], List.take_of_length_le (by simp [length_rowsV, hm])⟩⟩, hb⟩

/-- What a call hands back that hands back rows, a place and an error. -/
def Hands3 (w : World) (r : Res) (e : Ending) (w' : World) : Prop := ∃ v, e = .returned (.tuple #[v, .int .i64 (r.at_ : Int), .int .i64 (r.err : Int)]) ∧ Given w w' v r.rows
/-- .. rows and an error. -/
def Hands2 (w : World) (r : Res) (e : Ending) (w' : World) : Prop := ∃ v, e = .returned (.tuple #[v, .int .i64 (r.err : Int)]) ∧ Given w w' v r.rows

theorem hands3_nil {w w' : World} {r : Res} {n : Nat} (hr : r = .bad n) (hb : Below w.heap.size w w') : Hands3 w r (.returned (.tuple #[.slice none 0 0, .int .i64 0, .int .i64 (n : Int)])) w' := by
  subst hr
  exact ⟨_, rfl, given_nil hb⟩
theorem hands2_nil {w w' : World} {r : Res} {n : Nat} (hr : r = .bad n) (hb : Below w.heap.size w w') : Hands2 w r (.returned (.tuple #[.slice none 0 0, .int .i64 (n : Int)])) w' := by
  subst hr
  exact ⟨_, rfl, given_nil hb⟩
theorem hands3_rows {w w' : World} {r : Res} {m : List Rw} {i g : Nat} (hr : r = ⟨m, i, 0⟩) (hm : m.length = 16) (hg : w.heap.size ≤ g) (hk : Bk w' g 37 (rowsV m)) (hb : Below w.heap.size w w') :
    Hands3 w r (.returned (.tuple #[.slice (some ⟨g, 0, none⟩) 16 16, .int .i64 (i : Int), .int .i64 0])) w' := by
  subst hr
  exact ⟨_, rfl, given_block hg hk hm hb⟩
theorem hands2_rows {w w' : World} {r : Res} {m : List Rw} {g : Nat} (hr : r = ⟨m, 0, 0⟩) (hm : m.length = 16) (hg : w.heap.size ≤ g) (hk : Bk w' g 37 (rowsV m)) (hb : Below w.heap.size w w') :
    Hands2 w r (.returned (.tuple #[.slice (some ⟨g, 0, none⟩) 16 16, .int .i64 0])) w' := by
  subst hr
  exact ⟨_, rfl, given_block hg hk hm hb⟩

set_option maxHeartbeats 800000 in
theorem ret_no (l : List Rw) (A : Option Addr) (n c a : Nat) (w : World) (hn : l.length = n) (hr : Rd w w.heap.size A (rowsV l)) (hR : ¬ Right l) :
    Calls Try.prog 13 #[.slice A n c, .int .u16 (a : Int)] w fun e w' => Hands3 w (retP l a) e w' := by
  have Hn := Lib.hid hn
  have Hr := Lib.hid hr
  have hb := rightB_no hR
  have HP := Lib.hid (retP_no hR a)
  clear hn hr hR
  go_enter Try.func13, Try.ntmps13
  go_wp2_with (go_at_call 17; (with_reducible refine (right_all l A n c _ Hn.out Hr.out).mono ?_); rintro e w1 ⟨he, hb1⟩; obtain rfl := he; rw [hb]; have HB1 := Lib.hid hb1; clear hb1)
  go_ret3
  exact hands3_nil HP.out HB1.out

set_option maxHeartbeats 800000 in
theorem ret_found (l : List Rw) (A : Option Addr) (c a i : Nat) (w : World) (hn : l.length = 16) (hr : Rd w w.heap.size A (rowsV l)) (hR : Right l) (hf : fnd l a = some i) :
    Calls Try.prog 13 #[.slice A 16 c, .int .u16 (a : Int)] w fun e w' => Hands3 w (retP l a) e w' := by
  obtain ⟨⟨b, x⟩, hri, hx0, hba, _⟩ := fnd_some hf
  simp only at hx0 hba
  subst hba
  have hlo := fits_lo (hR.fits i _ hri)
  have hhi := fits_hi (hR.fits i _ hri)
  simp only at hlo hhi
  obtain ⟨B, o, rfl, hB, hcc⟩ : ∃ B o, A = some ⟨B, o, none⟩ ∧ B < w.heap.size ∧ (w.cell? ⟨B, o + i * 2, none⟩ = some (.int .u16 (b : Int)) ∧ w.cell? ⟨B, o + i * 2 + 1, none⟩ = some (.int .i64 x)) := rd_row hr hri
  have hi : i < 16 := by rw [← hn]; exact (List.getElem?_eq_some_iff.1 hri).1
  have hii : (i : Int) < 16 := by omega
  have Hn := Lib.hid hn
  have Hr := Lib.hid hr
  have Hc := Lib.hid hcc
  have hb := rightB_yes hR
  have HF := Lib.hid (fndP_yes hR b)
  have HA := Lib.hid hf
  have HI := Lib.hid hri
  have HL := Lib.hid (fun h => retP_long hR hf hri h)
  have HM := Lib.hid (fun h => retP_more hR hf hri h)
  clear hn hr hR hf hri hcc
  by_cases hx : x = 65535
  · have HP := Lib.hid (HL.out hx)
    clear HL HM
    subst hx
    go_enter Try.func13, Try.ntmps13
    go_wp2_with (first
      | (go_at_call 17; (with_reducible refine (right_all l _ 16 c _ Hn.out Hr.out).mono ?_); rintro e w1 ⟨he, hb1⟩; obtain rfl := he; rw [hb]; have HB1 := Lib.hid hb1; clear hb1)
      | (go_at_call 11; (with_reducible refine (find_any l _ 16 c b _ Hn.out ((Hr.out.below HB1.out).more HB1.out.size) (by omega)).mono ?_); rintro e w2 ⟨he, hb2⟩; obtain rfl := he; rw [HF.out, HA.out]; have HB2 := Lib.hid (HB1.out.trans (hb2.mono HB1.out.size)); have c0 := (HB2.out.cell hB).trans Hc.out.1; have c1 := (HB2.out.cell hB).trans Hc.out.2; have hB2 := Nat.lt_of_lt_of_le hB HB2.out.size; clear hb2; simp only [fndV, Option.getD_some, Option.isSome_some]))
    go_ret3
    exact hands3_nil HP.out (HB2.out.alloc HB2.out.size _)
  · have HP := Lib.hid (HM.out hx)
    have g0 : (x == 65535) = false := by simp [hx]
    have g1 : IntKind.i64.wrap (x + 1) = x + 1 := by rw [IntKind.wrap_i64]; omega
    clear HL HM
    go_enter Try.func13, Try.ntmps13
    go_wp2_with (first
      | (go_at_call 17; (with_reducible refine (right_all l _ 16 c _ Hn.out Hr.out).mono ?_); rintro e w1 ⟨he, hb1⟩; obtain rfl := he; rw [hb]; have HB1 := Lib.hid hb1; clear hb1)
      | (go_at_call 11; (with_reducible refine (find_any l _ 16 c b _ Hn.out ((Hr.out.below HB1.out).more HB1.out.size) (by omega)).mono ?_); rintro e w2 ⟨he, hb2⟩; obtain rfl := he; rw [HF.out, HA.out]; have HB2 := Lib.hid (HB1.out.trans (hb2.mono HB1.out.size)); have c0 := (HB2.out.cell hB).trans Hc.out.1; have c1 := (HB2.out.cell hB).trans Hc.out.2; have hB2 := Nat.lt_of_lt_of_le hB HB2.out.size; clear hb2; simp only [fndV, Option.getD_some, Option.isSome_some])
      | (go_at_call 27; (with_reducible refine (with_any l _ c i b (x + 1) _ Hn.out ((Hr.out.below (HB2.out.alloc HB2.out.size _)).more ((HB2.out.alloc HB2.out.size _).size)) hi).mono ?_); rintro e w5 ⟨g, he, hg, hk, hb5⟩; obtain rfl := he; have HK := Lib.hid hk; have HB5 := Lib.hid ((HB2.out.alloc HB2.out.size _).trans (hb5.mono (HB2.out.alloc HB2.out.size _).size)); have hgs := Nat.le_trans (HB2.out.alloc HB2.out.size _).size hg; clear hk hb5 hg))
    go_ret3
    exact hands3_rows HP.out (by rw [List.length_set, Hn.out]) hgs HK.out HB5.out

set_option maxHeartbeats 800000 in
theorem ret_none (l : List Rw) (A : Option Addr) (c a : Nat) (w : World) (hn : l.length = 16) (hr : Rd w w.heap.size A (rowsV l)) (hR : Right l) (hf : fnd l a = none) :
    Calls Try.prog 13 #[.slice A 16 c, .int .u16 (a : Int)] w fun e w' => Hands3 w (retP l a) e w' := by
  have Hn := Lib.hid hn
  have Hr := Lib.hid hr
  have hb := rightB_yes hR
  have HF := Lib.hid (fndP_yes hR a)
  have HA := Lib.hid hf
  have HL := Lib.hid (fun h => retP_full hR hf h)
  have HM := Lib.hid (fun i h => retP_new (i := i) hR hf h)
  clear hn hr hR hf
  have hg : l.findIdx? free = freeAt l := rfl
  cases hfr : freeAt l with
  | none =>
    have HP := Lib.hid (HL.out hfr)
    have HG : Hid (l.findIdx? free = none) := Lib.hid (hg.trans hfr)
    clear HL HM hg hfr
    go_enter Try.func13, Try.ntmps13
    go_wp2_with (first
      | (go_at_call 17; (with_reducible refine (right_all l _ 16 c _ Hn.out Hr.out).mono ?_); rintro e w1 ⟨he, hb1⟩; obtain rfl := he; rw [hb]; have HB1 := Lib.hid hb1; clear hb1)
      | (go_at_call 11; (with_reducible refine (find_any l _ 16 c a _ Hn.out ((Hr.out.below HB1.out).more HB1.out.size) (by omega)).mono ?_); rintro e w2 ⟨he, hb2⟩; obtain rfl := he; rw [HF.out, HA.out]; have HB2 := Lib.hid (HB1.out.trans (hb2.mono HB1.out.size)); clear hb2; simp only [fndV, Option.getD_none, Option.isSome_none])
      | (go_at_call 25; (with_reducible refine (index_free l _ 16 c _ Hn.out ((Hr.out.below HB2.out).more HB2.out.size) (by omega)).mono ?_); rintro e w3 ⟨he, hb3⟩; obtain rfl := he; rw [HG.out]; have HB3 := Lib.hid (HB2.out.trans (hb3.mono HB2.out.size)); clear hb3; simp only [placeI]))
    go_ret3
    exact hands3_nil HP.out HB3.out
  | some i =>
    have hi : i < 16 := by
      obtain ⟨r, h1, _⟩ := freeAt_some hfr
      have := (List.getElem?_eq_some_iff.1 h1).1
      rw [Hn.out] at this
      exact this
    have HP := Lib.hid (HM.out i hfr)
    have HG : Hid (l.findIdx? free = some i) := Lib.hid (hg.trans hfr)
    clear HL HM hg hfr
    go_enter Try.func13, Try.ntmps13
    go_wp2_with (first
      | (go_at_call 17; (with_reducible refine (right_all l _ 16 c _ Hn.out Hr.out).mono ?_); rintro e w1 ⟨he, hb1⟩; obtain rfl := he; rw [hb]; have HB1 := Lib.hid hb1; clear hb1)
      | (go_at_call 11; (with_reducible refine (find_any l _ 16 c a _ Hn.out ((Hr.out.below HB1.out).more HB1.out.size) (by omega)).mono ?_); rintro e w2 ⟨he, hb2⟩; obtain rfl := he; rw [HF.out, HA.out]; have HB2 := Lib.hid (HB1.out.trans (hb2.mono HB1.out.size)); clear hb2; simp only [fndV, Option.getD_none, Option.isSome_none])
      | (go_at_call 25; (with_reducible refine (index_free l _ 16 c _ Hn.out ((Hr.out.below HB2.out).more HB2.out.size) (by omega)).mono ?_); rintro e w3 ⟨he, hb3⟩; obtain rfl := he; rw [HG.out]; have HB3 := Lib.hid (HB2.out.trans (hb3.mono HB2.out.size)); clear hb3; simp only [placeI])
      | (go_at_call 27; (with_reducible refine (with_any l _ c i a 1 _ Hn.out ((Hr.out.below (HB3.out)).more ((HB3.out).size)) hi).mono ?_); rintro e w5 ⟨g, he, hg, hk, hb5⟩; obtain rfl := he; have HK := Lib.hid hk; have HB5 := Lib.hid ((HB3.out).trans (hb5.mono (HB3.out).size)); have hgs := Nat.le_trans (HB3.out).size hg; clear hk hb5 hg))
    go_ret3
    exact hands3_rows HP.out (by rw [List.length_set, Hn.out]) hgs HK.out HB5.out

/-- Retain. -/
theorem ret_any (l : List Rw) (A : Option Addr) (n c a : Nat) (w : World) (hn : l.length = n) (hr : Rd w w.heap.size A (rowsV l)) :
    Calls Try.prog 13 #[.slice A n c, .int .u16 (a : Int)] w fun e w' => Hands3 w (retP l a) e w' := by
  by_cases hR : Right l
  · have h16 := hR.len
    rw [hn] at h16
    subst h16
    cases hf : fnd l a with
    | none => exact ret_none l A c a w hn hr hR hf
    | some i => exact ret_found l A c a i w hn hr hR hf
  · exact ret_no l A n c a w hn hr hR

set_option maxHeartbeats 800000 in
theorem rel_no (l : List Rw) (A : Option Addr) (n c : Nat) (row : Int) (w : World) (hn : l.length = n) (hr : Rd w w.heap.size A (rowsV l)) (hR : ¬ Right l) :
    Calls Try.prog 15 #[.slice A n c, .int .i64 row] w fun e w' => Hands2 w (relP l row) e w' := by
  have Hn := Lib.hid hn
  have Hr := Lib.hid hr
  have hb := rightB_no hR
  have HP := Lib.hid (relP_no hR row)
  clear hn hr hR
  go_enter Try.func15, Try.ntmps15
  go_wp2_with (go_at_call 17; (with_reducible refine (right_all l _ n c _ Hn.out Hr.out).mono ?_); rintro e w1 ⟨he, hb1⟩; obtain rfl := he; rw [hb]; have HB1 := Lib.hid hb1; clear hb1)
  go_ret2
  exact hands2_nil HP.out HB1.out
set_option maxHeartbeats 800000 in
theorem rel_out (l : List Rw) (A : Option Addr) (c : Nat) (row : Int) (w : World) (hn : l.length = 16) (hr : Rd w w.heap.size A (rowsV l)) (hR : Right l) (h : ¬ (0 ≤ row ∧ row < 16)) :
    Calls Try.prog 15 #[.slice A 16 c, .int .i64 row] w fun e w' => Hands2 w (relP l row) e w' := by
  have Hn := Lib.hid hn
  have Hr := Lib.hid hr
  have hb := rightB_yes hR
  have HP := Lib.hid (relP_out (l := l) h)
  clear hn hr hR
  by_cases h1 : row < 0
  · clear h
    go_enter Try.func15, Try.ntmps15
    go_wp2_with (go_at_call 17; (with_reducible refine (right_all l _ 16 c _ Hn.out Hr.out).mono ?_); rintro e w1 ⟨he, hb1⟩; obtain rfl := he; rw [hb]; have HB1 := Lib.hid hb1; clear hb1)
    go_ret2
    exact hands2_nil HP.out HB1.out
  · have h2 : 16 ≤ row := by omega
    clear h
    go_enter Try.func15, Try.ntmps15
    go_wp2_with (go_at_call 17; (with_reducible refine (right_all l _ 16 c _ Hn.out Hr.out).mono ?_); rintro e w1 ⟨he, hb1⟩; obtain rfl := he; rw [hb]; have HB1 := Lib.hid hb1; clear hb1)
    go_ret2
    exact hands2_nil HP.out HB1.out

set_option maxHeartbeats 800000 in
theorem rel_free (l : List Rw) (A : Option Addr) (c i b : Nat) (w : World) (hn : l.length = 16) (hr : Rd w w.heap.size A (rowsV l)) (hR : Right l) (hri : l[i]? = some ⟨b, 0⟩) :
    Calls Try.prog 15 #[.slice A 16 c, .int .i64 (i : Int)] w fun e w' => Hands2 w (relP l (i : Int)) e w' := by
  obtain ⟨B, o, rfl, hB, hcc⟩ : ∃ B o, A = some ⟨B, o, none⟩ ∧ B < w.heap.size ∧ (w.cell? ⟨B, o + i * 2, none⟩ = some (.int .u16 (b : Int)) ∧ w.cell? ⟨B, o + i * 2 + 1, none⟩ = some (.int .i64 0)) := rd_row hr hri
  have hi : i < 16 := by rw [← hn]; exact (List.getElem?_eq_some_iff.1 hri).1
  have hi0 : (0 : Int) ≤ (i : Int) := Int.natCast_nonneg _
  have hii : (i : Int) < 16 := by omega
  have hij : ¬ ((i : Int) < 0) := by omega
  have hik : ¬ ((16 : Int) ≤ (i : Int)) := by omega
  have Hn := Lib.hid hn
  have Hr := Lib.hid hr
  have Hc := Lib.hid hcc
  have hb := rightB_yes hR
  have HP := Lib.hid (relP_free hR hri rfl)
  clear hn hr hR hri hcc
  go_enter Try.func15, Try.ntmps15
  go_wp2_with (first
    | (go_at_call 17; (with_reducible refine (right_all l _ 16 c _ Hn.out Hr.out).mono ?_); rintro e w1 ⟨he, hb1⟩; obtain rfl := he; rw [hb]; have HB1 := Lib.hid hb1; have c0 := (hb1.cell hB).trans Hc.out.1; have c1 := (hb1.cell hB).trans Hc.out.2; have hB1 := Nat.lt_of_lt_of_le hB hb1.size; clear hb1)
    | (go_at_call 28; (with_reducible refine (isFree_any b 0 _).mono ?_); rintro e w2 ⟨he, hw2⟩; obtain rfl := he; have HB2 := Lib.hid (by subst hw2; exact (HB1.out.alloc HB1.out.size _).alloc (by have := HB1.out.size; simp; omega) _ : Below w.heap.size w w2); clear hw2))
  go_ret2
  exact hands2_nil HP.out HB2.out

set_option maxHeartbeats 800000 in
theorem rel_one (l : List Rw) (A : Option Addr) (c i b : Nat) (w : World) (hn : l.length = 16) (hr : Rd w w.heap.size A (rowsV l)) (hR : Right l) (hri : l[i]? = some ⟨b, 1⟩) :
    Calls Try.prog 15 #[.slice A 16 c, .int .i64 (i : Int)] w fun e w' => Hands2 w (relP l (i : Int)) e w' := by
  have hhi := fits_hi (hR.fits i _ hri)
  simp only at hhi
  obtain ⟨B, o, rfl, hB, hcc⟩ : ∃ B o, A = some ⟨B, o, none⟩ ∧ B < w.heap.size ∧ (w.cell? ⟨B, o + i * 2, none⟩ = some (.int .u16 (b : Int)) ∧ w.cell? ⟨B, o + i * 2 + 1, none⟩ = some (.int .i64 1)) := rd_row hr hri
  have hi : i < 16 := by rw [← hn]; exact (List.getElem?_eq_some_iff.1 hri).1
  have hi0 : (0 : Int) ≤ (i : Int) := Int.natCast_nonneg _
  have hii : (i : Int) < 16 := by omega
  have hij : ¬ ((i : Int) < 0) := by omega
  have hik : ¬ ((16 : Int) ≤ (i : Int)) := by omega
  have Hn := Lib.hid hn
  have Hr := Lib.hid hr
  have Hc := Lib.hid hcc
  have hb := rightB_yes hR
  have HP := Lib.hid ((relP_yes hR hri (by show (1 : Int) ≠ 0; decide)).trans (by rfl : _ = (⟨l.set i .z, 0, 0⟩ : Res)))
  clear hn hr hR hri hcc
  go_enter Try.func15, Try.ntmps15
  go_wp2_with (first
    | (go_at_call 17; (with_reducible refine (right_all l _ 16 c _ Hn.out Hr.out).mono ?_); rintro e w1 ⟨he, hb1⟩; obtain rfl := he; rw [hb]; have HB1 := Lib.hid hb1; have c0 := (hb1.cell hB).trans Hc.out.1; have c1 := (hb1.cell hB).trans Hc.out.2; have hB1 := Nat.lt_of_lt_of_le hB hb1.size; clear hb1)
    | (go_at_call 28; (with_reducible refine (isFree_any b 1 _).mono ?_); rintro e w2 ⟨he, hw2⟩; obtain rfl := he; have K2 : Bk w2 w1.heap.size 37 [.int .u16 (b : Int), .int .i64 1] := (by subst hw2; exact (Bk.new w1 37 [.int .u16 (b : Int), .int .i64 1]).below (alloc_below _ _) (by simp)); have HB2 := Lib.hid (by subst hw2; exact (HB1.out.alloc HB1.out.size _).alloc (by have := HB1.out.size; simp; omega) _ : Below w.heap.size w w2); have d0 := K2.cell 0; have d1 := K2.cell 1; have f0 := K2.frozen 0; have f1 := K2.frozen 1; have hs2 := K2.lt; have HK2 := Lib.hid K2; clear hw2 K2)
    | (go_at_call 28; (with_reducible refine (isFree_any b 0 _).mono ?_); rintro e w3 ⟨he, hw3⟩; obtain rfl := he; have K3 : Bk w3 w1.heap.size 37 [.int .u16 (b : Int), .int .i64 0] := (by subst hw3; exact (HK2.out.set 1 (.int .i64 0)).below (alloc_below _ _) (HK2.out.set 1 (.int .i64 0)).lt); have HB3 := Lib.hid (by subst hw3; exact (HB2.out.setCell (p := ⟨w1.heap.size, 1, none⟩) HB1.out.size _).alloc (by have := HB2.out.size; simp [World.setCell]; omega) _ : Below w.heap.size w w3); have k0 := K3.cell 0; have k1 := K3.cell 1; have j0 := K3.frozen 0; have hs3 := K3.lt; clear hw3 K3)
    | (go_at_call 27; (with_reducible refine (with_zero l _ c i _ Hn.out ((Hr.out.below (HB3.out.setCell (p := ⟨w1.heap.size, 0, none⟩) HB1.out.size (.int .u16 0))).more ((HB3.out.setCell (p := ⟨w1.heap.size, 0, none⟩) HB1.out.size (.int .u16 0)).size)) hi).mono ?_); rintro e w5 ⟨g, he, hg, hk, hb5⟩; obtain rfl := he; have HK := Lib.hid hk; have HB5 := Lib.hid ((HB3.out.setCell (p := ⟨w1.heap.size, 0, none⟩) HB1.out.size (.int .u16 0)).trans (hb5.mono (HB3.out.setCell (p := ⟨w1.heap.size, 0, none⟩) HB1.out.size (.int .u16 0)).size)); have hgs := Nat.le_trans (HB3.out.setCell (p := ⟨w1.heap.size, 0, none⟩) HB1.out.size (.int .u16 0)).size hg; clear hk hb5 hg))
  go_ret2
  exact hands2_rows HP.out (by rw [List.length_set, Hn.out]) hgs HK.out HB5.out

set_option maxHeartbeats 800000 in
theorem rel_more (l : List Rw) (A : Option Addr) (c i b : Nat) (x : Int) (w : World) (hn : l.length = 16) (hr : Rd w w.heap.size A (rowsV l)) (hR : Right l) (hri : l[i]? = some ⟨b, x⟩) (h1 : 1 < x) :
    Calls Try.prog 15 #[.slice A 16 c, .int .i64 (i : Int)] w fun e w' => Hands2 w (relP l (i : Int)) e w' := by
  have hhi := fits_hi (hR.fits i _ hri)
  simp only at hhi
  obtain ⟨B, o, rfl, hB, hcc⟩ : ∃ B o, A = some ⟨B, o, none⟩ ∧ B < w.heap.size ∧ (w.cell? ⟨B, o + i * 2, none⟩ = some (.int .u16 (b : Int)) ∧ w.cell? ⟨B, o + i * 2 + 1, none⟩ = some (.int .i64 x)) := rd_row hr hri
  have hi : i < 16 := by rw [← hn]; exact (List.getElem?_eq_some_iff.1 hri).1
  have hi0 : (0 : Int) ≤ (i : Int) := Int.natCast_nonneg _
  have hii : (i : Int) < 16 := by omega
  have hij : ¬ ((i : Int) < 0) := by omega
  have hik : ¬ ((16 : Int) ≤ (i : Int)) := by omega
  have Hn := Lib.hid hn
  have Hr := Lib.hid hr
  have Hc := Lib.hid hcc
  have hb := rightB_yes hR
  have HP := Lib.hid ((relP_yes hR hri (by show x ≠ 0; omega)).trans (by unfold Rw.less; rw [if_neg (by show ¬ x = 1; omega)] : _ = (⟨l.set i ⟨b, x - 1⟩, 0, 0⟩ : Res)))
  clear hn hr hR hri hcc
  have g0 : (x == 0) = false := by simp; omega
  have g1 : (x - 1 == 0) = false := by simp; omega
  have g2 : IntKind.i64.wrap (x - 1) = x - 1 := by rw [IntKind.wrap_i64]; omega
  go_enter Try.func15, Try.ntmps15
  go_wp2_with (first
    | (go_at_call 17; (with_reducible refine (right_all l _ 16 c _ Hn.out Hr.out).mono ?_); rintro e w1 ⟨he, hb1⟩; obtain rfl := he; rw [hb]; have HB1 := Lib.hid hb1; have c0 := (hb1.cell hB).trans Hc.out.1; have c1 := (hb1.cell hB).trans Hc.out.2; have hB1 := Nat.lt_of_lt_of_le hB hb1.size; clear hb1)
    | (go_at_call 28; (with_reducible refine (isFree_any b x _).mono ?_); rintro e w2 ⟨he, hw2⟩; obtain rfl := he; have K2 : Bk w2 w1.heap.size 37 [.int .u16 (b : Int), .int .i64 x] := (by subst hw2; exact (Bk.new w1 37 [.int .u16 (b : Int), .int .i64 x]).below (alloc_below _ _) (by simp)); have HB2 := Lib.hid (by subst hw2; exact (HB1.out.alloc HB1.out.size _).alloc (by have := HB1.out.size; simp; omega) _ : Below w.heap.size w w2); have d0 := K2.cell 0; have d1 := K2.cell 1; have f0 := K2.frozen 0; have f1 := K2.frozen 1; have hs2 := K2.lt; have HK2 := Lib.hid K2; clear hw2 K2)
    | (go_at_call 28; (with_reducible refine (isFree_any b (x - 1) _).mono ?_); rintro e w3 ⟨he, hw3⟩; obtain rfl := he; have K3 : Bk w3 w1.heap.size 37 [.int .u16 (b : Int), .int .i64 (x - 1)] := (by subst hw3; exact (HK2.out.set 1 (.int .i64 (x - 1))).below (alloc_below _ _) (HK2.out.set 1 (.int .i64 (x - 1))).lt); have HB3 := Lib.hid (by subst hw3; exact (HB2.out.setCell (p := ⟨w1.heap.size, 1, none⟩) HB1.out.size _).alloc (by have := HB2.out.size; simp [World.setCell]; omega) _ : Below w.heap.size w w3); have k0 := K3.cell 0; have k1 := K3.cell 1; have j0 := K3.frozen 0; have hs3 := K3.lt; clear hw3 K3)
    | (go_at_call 27; (with_reducible refine (with_any l _ c i b (x - 1) _ Hn.out ((Hr.out.below (HB3.out)).more ((HB3.out).size)) hi).mono ?_); rintro e w5 ⟨g, he, hg, hk, hb5⟩; obtain rfl := he; have HK := Lib.hid hk; have HB5 := Lib.hid ((HB3.out).trans (hb5.mono (HB3.out).size)); have hgs := Nat.le_trans (HB3.out).size hg; clear hk hb5 hg))
  go_ret2
  exact hands2_rows HP.out (by rw [List.length_set, Hn.out]) hgs HK.out HB5.out

/-- Release. -/
theorem rel_any (l : List Rw) (A : Option Addr) (n c : Nat) (row : Int) (w : World) (hn : l.length = n) (hr : Rd w w.heap.size A (rowsV l)) :
    Calls Try.prog 15 #[.slice A n c, .int .i64 row] w fun e w' => Hands2 w (relP l row) e w' := by
  by_cases hR : Right l
  · have h16 := hR.len
    rw [hn] at h16
    subst h16
    by_cases h : 0 ≤ row ∧ row < 16
    · obtain ⟨i, rfl⟩ : ∃ i : Nat, row = (i : Int) := ⟨row.toNat, by omega⟩
      obtain ⟨⟨b, x⟩, hri⟩ : ∃ r, l[i]? = some r := ⟨_, List.getElem?_eq_getElem (by omega)⟩
      have hlo := fits_lo (hR.fits i _ hri)
      simp only at hlo
      rcases Int.lt_trichotomy x 1 with hx | rfl | hx
      · obtain rfl : x = 0 := by omega
        exact rel_free l A c i b w hn hr hR hri
      · exact rel_one l A c i b w hn hr hR hri
      · exact rel_more l A c i b x w hn hr hR hri hx
    · exact rel_out l A c row w hn hr hR h
  · exact rel_no l A n c row w hn hr hR
end Go.Proofs.Ytdecllllcoflbaa.Intern
