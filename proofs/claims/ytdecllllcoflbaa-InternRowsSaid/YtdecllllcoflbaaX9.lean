/-
  Rows out of bytes: package intern's Take and the document's.
-/
import Derived.Test.YtdecllllcoflbaaX8
namespace Go.Proofs.Ytdecllllcoflbaa.Intern
open Go.RowKit

/-- The rows that numbers stand for. -/
def rowsOf (ws : List Nat) : List Rw := (List.range 16).map fun i => ⟨ws.getD (2 * i) 0, (ws.getD (2 * i + 1) 0 : Nat)⟩
theorem length_rowsOf (ws : List Nat) : (rowsOf ws).length = 16 := by simp [rowsOf]
theorem rowsOf_at {ws : List Nat} {j a m : Nat} (hj : j < 16) (h0 : ws[2 * j]? = some a) (h1 : ws[2 * j + 1]? = some m) : (rowsOf ws)[j]? = some ⟨a, (m : Int)⟩ := by
  simp [rowsOf, hj, List.getD_eq_getElem?_getD, h0, h1]
/-- Rows that are being filled. -/
def partR (T : List Rw) (j : Nat) : List Rw := T.take j ++ List.replicate (16 - j) .z
theorem partR_zero (T : List Rw) : partR T 0 = frees := by simp [partR, frees]
theorem partR_all {T : List Rw} (h : T.length = 16) : partR T 16 = T := by
  unfold partR
  rw [List.take_of_length_le (by omega)]
  simp
theorem length_partR {T : List Rw} (h : T.length = 16) {j : Nat} (hj : j ≤ 16) : (partR T j).length = 16 := by simp [partR]; omega
theorem partR_step {T : List Rw} (h : T.length = 16) {j : Nat} {r : Rw} (hr : T[j]? = some r) : (partR T j).set j r = partR T (j + 1) := by
  obtain ⟨hj, rfl⟩ := List.getElem?_eq_some_iff.1 hr
  have e : 16 - j = (16 - (j + 1)) + 1 := by omega
  have hl : (T.take j).length = j := by simp; omega
  unfold partR
  rw [e, List.replicate_succ, List.set_append_right _ _ (by omega), hl, List.take_succ_eq_append_getElem hj]
  simp only [Nat.sub_self, List.set_cons_zero, List.append_assoc, List.cons_append, List.nil_append]
noncomputable def takR (bs : List UInt8) : Res :=
  if bs.length = 64 then if rightB (rowsOf (takel 2 bs)) then ⟨rowsOf (takel 2 bs), 0, 0⟩ else .bad 100 else .bad 100
theorem takR_len {bs : List UInt8} (h : bs.length ≠ 64) : takR bs = .bad 100 := by unfold takR; rw [if_neg h]
theorem takR_yes {bs : List UInt8} (h : bs.length = 64) (hR : Right (rowsOf (takel 2 bs))) : takR bs = ⟨rowsOf (takel 2 bs), 0, 0⟩ := by unfold takR; rw [if_pos h, rightB_yes hR]; rfl
theorem takR_no {bs : List UInt8} (h : bs.length = 64) (hR : ¬ Right (rowsOf (takel 2 bs))) : takR bs = .bad 100 := by unfold takR; rw [if_pos h, rightB_no hR]; rfl

theorem take_len (A : Option Addr) (n c : Nat) (w : World) (h : n ≠ 64) (bs : List UInt8) (hb : bs.length = n) : Calls Try.prog 22 #[.slice A n c] w fun e w' => Hands2 w (takR bs) e w' := by
  have hP := takR_len (bs := bs) (by omega)
  have hn : ((n : Int) != 64) = true := by simp; omega
  have HP := Lib.hid hP
  clear hP
  go_enter Try.func22, Try.ntmps22
  go_wp2
  go_ret2
  exact hands2_nil HP.out (Below.refl _ _)
theorem rtake_len (A : Option Addr) (n c : Nat) (w : World) (h : n ≠ 64) (bs : List UInt8) (hb : bs.length = n) : Calls Try.prog 23 #[.slice A n c] w fun e w' => Hands2 w (takR bs) e w' := by
  have hP := takR_len (bs := bs) (by omega)
  have hn : ((n : Int) != 64) = true := by simp; omega
  have HP := Lib.hid hP
  clear hP
  go_enter Try.func23, Try.ntmps23
  go_wp2
  go_ret2
  exact hands2_nil HP.out (Below.refl _ _)

theorem take2 (l : List UInt8) (A : Option Addr) (c : Nat) (w : World) (hn : l.length = 64) (hr : Rd w w.heap.size A (bytesV l)) (hc : 64 ≤ c) :
    Calls Try.prog 32 #[.int .i64 2, .slice A 64 c] w fun e w' => ∃ v, e = .returned (.tuple #[v, .int .i64 0]) ∧ MadeN w (takel 2 l) v w' :=
  take_ok l A 64 c 32 2 w hn hr hc (by omega) (by omega) (by omega) (by omega)
theorem takel_small (l : List UInt8) : ∀ x ∈ takel 2 l, x < 65536 := by
  intro x hx
  simp only [takel, List.mem_map, List.mem_range] at hx
  obtain ⟨k, _, rfl⟩ := hx
  have h1 := le_lt ((l.drop (k * 2)).take 2)
  have h2 : ((l.drop (k * 2)).take 2).length ≤ 2 := by rw [List.length_take]; omega
  have h3 : 256 ^ ((l.drop (k * 2)).take 2).length ≤ 256 ^ 2 := Nat.pow_le_pow_right (by omega) h2
  have h4 : (256 : Nat) ^ 2 = 65536 := rfl
  omega
theorem rd_nums {w : World} {B : Nat} {A : Option Addr} {l : List Nat} (h : Rd w B A (numsV l)) (hl : l ≠ []) : ∃ b o, A = some ⟨b, o, none⟩ ∧ b < B ∧ ∀ (i : Nat) x, l[i]? = some x → w.cell? ⟨b, o + i, none⟩ = some (.int .u64 (x : Int)) := by
  rcases h with h | ⟨b, o, h1, h2, h3⟩
  · exact absurd (by simpa [numsV] using h) hl
  · exact ⟨b, o, h1, h2, fun i x hx => h3 i _ (by simp [numsV, numV, hx])⟩

theorem below_drew {B : Nat} {a w : World} (h : Below B a w) : Below B a w.drew := ⟨h.os, h.tape, h.output, h.size, h.block⟩
theorem rd_block {w : World} {g : Nat} {l : List Rw} (h : Bk w g 37 (rowsV l)) : Rd w w.heap.size (some ⟨g, 0, none⟩) (rowsV l) := by
  have := h.rd (rowsV l).length 0
  rwa [List.drop_zero, List.take_length] at this

set_option maxHeartbeats 1600000 in
theorem take_rows (l : List UInt8) (A : Option Addr) (c : Nat) (w : World) (hn : l.length = 64) (hr : Rd w w.heap.size A (bytesV l)) (hc : 64 ≤ c) :
    Calls Try.prog 22 #[.slice A 64 c] w fun e w' => Hands2 w (takR l) e w' := by
  have hT : (takel 2 l).length = 32 := by rw [length_takel, hn]
  obtain ⟨T, hTe⟩ : ∃ T, T = rowsOf (takel 2 l) := ⟨_, rfl⟩
  have hTl : T.length = 16 := by rw [hTe]; exact length_rowsOf _
  have HY := Lib.hid (fun h => takR_yes hn (hTe ▸ h))
  have HN := Lib.hid (fun h => takR_no hn (hTe ▸ h))
  have HTl := Lib.hid hTl
  have HTe := Lib.hid hTe
  have HT := Lib.hid hT
  have HS := Lib.hid (takel_small l)
  have Hn := Lib.hid hn
  have Hr := Lib.hid hr
  clear hT hTe hTl hn hr
  have hmk := make_rows
  go_enter Try.func22, Try.ntmps22
  go_wp2_with (go_at_call 32; (with_reducible refine (take2 l A c _ Hn.out Hr.out hc).mono ?_); rintro e w1 ⟨v1, he, hown1, hb1⟩; obtain rfl := he; rw [HT.out] at hown1; obtain ⟨_, A2, c2, hv1, _, _, hr2⟩ := own_rd hown1; subst hv1; have HR2 := Lib.hid hr2; have HB1 := Lib.hid hb1; clear hown1 hb1 hr2)
  have hne : takel 2 l ≠ [] := by intro h; have := HT.out; rw [h] at this; cases this
  obtain ⟨B, o, rfl, hB, hcc⟩ := rd_nums HR2.out hne
  have Hc := Lib.hid hcc
  clear hcc hne hmk
  have hs0 := HB1.out.size
  go_loopw [7, 19] (fun _ i wr => ∃ j : Nat, j ≤ 16 ∧ i = .int .i64 (j : Int) ∧ Bk wr w1.heap.size 37 (rowsV (partR T j)) ∧ Below w1.heap.size w1 wr) (fun _ i _ => 16 - (intOf i).toNat)
  case atStart => exact ⟨0, Nat.zero_le _, rfl, by rw [partR_zero]; exact Bk.new w1 37 _, alloc_below _ _⟩
  case round =>
    obtain ⟨j, hj, rfl, hk, hbel⟩ := hrel
    by_cases hlt : j < 16
    · obtain ⟨a, ha⟩ : ∃ a, (takel 2 l)[2 * j]? = some a := ⟨_, List.getElem?_eq_getElem (by rw [HT.out]; omega)⟩
      obtain ⟨m, hm⟩ : ∃ m, (takel 2 l)[2 * j + 1]? = some m := ⟨_, List.getElem?_eq_getElem (by rw [HT.out]; omega)⟩
      have ha6 := HS.out a (List.mem_of_getElem? ha)
      have hm6 := HS.out m (List.mem_of_getElem? hm)
      have c0 := (hbel.cell hB).trans (Hc.out _ a ha)
      have c1 := (hbel.cell hB).trans (Hc.out _ m hm)
      have hTj := rowsOf_at hlt ha hm
      rw [← HTe.out] at hTj
      have hkl := length_partR HTl.out hj
      have hset := (hk.set (j * 2) (.int .u16 (a : Int))).set (j * 2 + 1) (.int .i64 (m : Int))
      rw [← rowsV_set (partR T j) j ⟨a, (m : Int)⟩ (by omega), partR_step HTl.out hTj] at hset
      have hk1 := hk.cell (j * 2)
      have hk2 := hk.cell (j * 2 + 1)
      obtain ⟨u0, hu0⟩ : ∃ u, (rowsV (partR T j))[j * 2]? = some u := ⟨_, List.getElem?_eq_getElem (by rw [length_rowsV]; omega)⟩
      obtain ⟨u1, hu1⟩ : ∃ u, (rowsV (partR T j))[j * 2 + 1]? = some u := ⟨_, List.getElem?_eq_getElem (by rw [length_rowsV]; omega)⟩
      rw [hu0] at hk1
      rw [hu1] at hk2
      have f0 := hk.frozen (j * 2)
      have f1 := hk.frozen (j * 2 + 1)
      have hs := Nat.lt_of_lt_of_le hB hbel.size
      have hs1 := hk.lt
      have HK := Lib.hid hset
      have HB2 := Lib.hid ((hbel.setCell (p := ⟨w1.heap.size, j * 2, none⟩) (Nat.le_refl _) (.int .u16 (a : Int))).setCell (p := ⟨w1.heap.size, j * 2 + 1, none⟩) (Nat.le_refl _) (.int .i64 (m : Int)))
      have e1 : IntKind.u16.wrap (a : Int) = (a : Int) := by rw [IntKind.wrap_u16]; omega
      have e2 : IntKind.i64.wrap (m : Int) = (m : Int) := by rw [IntKind.wrap_i64]; omega
      have e3 : IntKind.i64.wrap (2 * (j : Int)) = ((2 * j : Nat) : Int) := by rw [IntKind.wrap_i64]; omega
      have e4 : IntKind.i64.wrap (((2 * j : Nat) : Int) + 1) = ((2 * j + 1 : Nat) : Int) := by rw [IntKind.wrap_i64]; omega
      have e5 : (0 : Int) ≤ (j : Int) := Int.natCast_nonneg _
      have e6 : (j : Int) < 16 := by omega
      have hne2 : B ≠ w1.heap.size := by omega
      clear ha hm hk hset hu0 hu1 hTj hbel
      go_wp2
      go_region
      have HK3 : Hid (Bk (((wr.setCell ⟨w1.heap.size, j * 2, none⟩ (.int .u16 (a : Int))).setCell ⟨w1.heap.size, j * 2 + 1, none⟩ (.int .i64 (m : Int))).drew) w1.heap.size 37 (rowsV (partR T (j + 1)))) := HK
      have HB3 := Lib.hid (below_drew HB2.out)
      go_wp2
      go_roundw
      case rel => exact ⟨j + 1, by omega, by go_num, HK3.out, HB3.out⟩
      case measure => simp [intOf]; omega
    · obtain rfl : j = 16 := by omega
      rw [partR_all HTl.out] at hk
      have HK := Lib.hid hk
      have HB := Lib.hid hbel
      have HW := Lib.hid (HB1.out.trans (hbel.mono hs0))
      clear hk hbel
      by_cases hR : Right T
      · have hb := rightB_yes hR
        have HP := Lib.hid (HY.out hR)
        clear hR HN HY
        go_wp2_with (go_at_call 17; (with_reducible refine (right_all T _ 16 16 _ HTl.out (rd_block HK.out)).mono ?_); rintro e w4 ⟨he, hb4⟩; obtain rfl := he; rw [hb]; have HB4 := Lib.hid hb4; clear hb4)
        go_ret2
        refine hands2_rows (m := T) (by rw [HP.out, HTe.out]) HTl.out hs0 ?_ (HW.out.trans (HB4.out.mono HW.out.size))
        exact HK.out.below HB4.out HK.out.lt
      · have hb := rightB_no hR
        have HP := Lib.hid (HN.out hR)
        clear hR HN HY
        go_wp2_with (go_at_call 17; (with_reducible refine (right_all T _ 16 16 _ HTl.out (rd_block HK.out)).mono ?_); rintro e w4 ⟨he, hb4⟩; obtain rfl := he; rw [hb]; have HB4 := Lib.hid hb4; clear hb4)
        go_ret2
        exact hands2_nil HP.out (HW.out.trans (HB4.out.mono HW.out.size))
/-- Take. -/
theorem take_any (l : List UInt8) (A : Option Addr) (n c : Nat) (w : World) (hn : l.length = n) (hr : Rd w w.heap.size A (bytesV l)) (hc : n ≤ c) :
    Calls Try.prog 22 #[.slice A n c] w fun e w' => Hands2 w (takR l) e w' := by
  by_cases h : n = 64
  · subst h
    exact take_rows l A c w hn hr hc
  · exact take_len A n c w h l hn

/-- A number of two bytes, as it stands. -/
theorem at2 (l : List UInt8) (A : Option Addr) (c B p : Nat) (x : Int) (w : World) (hn : l.length = 64) (hr : Rd w B A (bytesV l)) (hx : x = (p : Int)) (hs : p + 2 ≤ 64) (a : Nat) (ha : le ((l.drop p).take 2) = a) :
    Calls Try.prog 33 #[.slice A 64 c, .int .i64 x, .int .i64 2] w fun e w' => e = .returned (.int .u64 (a : Int)) ∧ w = w' := by
  subst hx
  subst ha
  exact at_any l A 64 c B p 2 w hn hr hs (by omega) (by omega) (by omega)

set_option maxHeartbeats 1600000 in
theorem rtake_rows (l : List UInt8) (A : Option Addr) (c : Nat) (w : World) (hn : l.length = 64) (hr : Rd w w.heap.size A (bytesV l)) :
    Calls Try.prog 23 #[.slice A 64 c] w fun e w' => Hands2 w (takR l) e w' := by
  have hT : (takel 2 l).length = 32 := by rw [length_takel, hn]
  have hD : ∀ k, k < 32 → (takel 2 l)[k]? = some (le ((l.drop (k * 2)).take 2)) := fun k hk => getElem?_takel 2 l k (by rw [hn]; omega)
  obtain ⟨T, hTe⟩ : ∃ T, T = rowsOf (takel 2 l) := ⟨_, rfl⟩
  have hTl : T.length = 16 := by rw [hTe]; exact length_rowsOf _
  have HY := Lib.hid (fun h => takR_yes hn (hTe ▸ h))
  have HN := Lib.hid (fun h => takR_no hn (hTe ▸ h))
  have HTl := Lib.hid hTl
  have HTe := Lib.hid hTe
  have HT := Lib.hid hT
  have HD := Lib.hid hD
  have HS := Lib.hid (takel_small l)
  have Hn := Lib.hid hn
  have Hr := Lib.hid hr
  clear hT hTe hTl hn hr hD
  go_enter Try.func23, Try.ntmps23
  go_wp2
  go_loopw [4, 5] (fun v i wr => ∃ j : Nat, j ≤ 16 ∧ i = .int .i64 ((4 * j : Nat) : Int) ∧ wr.ownsRow w.heap.size 37 2 v j (rowsV (T.take j)) ∧ Below w.heap.size w wr) (fun _ i _ => 64 - (intOf i).toNat)
  case atStart => exact ⟨0, Nat.zero_le _, rfl, World.ownsRow_nil _ _ _ _, Below.refl _ _⟩
  case round =>
    obtain ⟨j, hj, rfl, hown, hbel⟩ := hrel
    by_cases hlt : j < 16
    · obtain ⟨a, ha⟩ : ∃ a, le ((l.drop (4 * j)).take 2) = a := ⟨_, rfl⟩
      obtain ⟨m, hm⟩ : ∃ m, le ((l.drop (4 * j + 2)).take 2) = m := ⟨_, rfl⟩
      have ha1 : (takel 2 l)[2 * j]? = some a := by rw [HD.out _ (by omega), show 2 * j * 2 = 4 * j by omega, ha]
      have hm1 : (takel 2 l)[2 * j + 1]? = some m := by rw [HD.out _ (by omega), show (2 * j + 1) * 2 = 4 * j + 2 by omega, hm]
      have ha6 := HS.out a (List.mem_of_getElem? ha1)
      have hm6 := HS.out m (List.mem_of_getElem? hm1)
      have hTj := rowsOf_at hlt ha1 hm1
      rw [← HTe.out] at hTj
      have hTt : T.take (j + 1) = T.take j ++ [⟨a, (m : Int)⟩] := by
        obtain ⟨h1, h2⟩ := List.getElem?_eq_some_iff.1 hTj
        rw [List.take_succ_eq_append_getElem h1, h2]
      have HTt := Lib.hid hTt
      have HA := Lib.hid ha
      have HM := Lib.hid hm
      have e1 : IntKind.u16.wrap (a : Int) = (a : Int) := by rw [IntKind.wrap_u16]; omega
      have e2 : IntKind.i64.wrap (m : Int) = (m : Int) := by rw [IntKind.wrap_i64]; omega
      have e5 : ((4 * j : Nat) : Int) < 64 := by omega
      have e7 : (4 : Int) * (j : Int) < 64 := by omega
      have hjl : (T.take j).length = j := by rw [List.length_take, HTl.out]; omega
      have HO := Lib.hid (show wr.ownsRow w.heap.size 37 2 _ (T.take j).length (rowsV (T.take j)) by rw [hjl]; exact hown)
      have HB := Lib.hid hbel
      have hsz := hbel.size
      have HJ := Lib.hid hjl
      clear ha hm ha1 hm1 hTj hTt hown hbel hjl
      go_wp2_with (first
        | (go_at_call 33; (with_reducible refine (at2 l A c _ (4 * j) _ _ Hn.out (Hr.out.below HB.out) (by omega) (by omega) a HA.out).mono ?_); rintro e w3 ⟨he, hw⟩; obtain rfl := he; subst hw)
        | (go_at_call 33; (with_reducible refine (at2 l A c _ (4 * j + 2) _ _ Hn.out (Hr.out.below HB.out) (by omega) (by omega) m HM.out).mono ?_); rintro e w3 ⟨he, hw⟩; obtain rfl := he; subst hw)
        | (at_builtin; refine wpList_rows _ rfl (.tmp 15) (.tmp 26) rfl w.heap.size _ (T.take j) rfl (HO.out.alloc _) (wr.heap.size + 1) _ 1 1 [⟨a, (m : Int)⟩] rfl rfl (rd_new2 (.int .u16 (a : Int)) (.int .i64 (m : Int)) 37 wr.heap.size rfl rfl) (by rw [HJ.out]; omega) (by simp; omega) ?_; intro v4 w4 hown4 hg4; have HO4 := Lib.hid (show w4.ownsRow w.heap.size 37 2 v4 (j + 1) (rowsV (T.take (j + 1))) by (rw [HTt.out]; have h := hown4; rw [List.length_append, HJ.out] at h; exact h)); have HB4 := Lib.hid ((HB.out.alloc hsz _).grown hg4 (by simp; omega) (fun k hk => (HO.out.lt k hk).1)); clear hown4 hg4))
      go_roundw
      case rel => exact ⟨j + 1, by omega, by go_num, HO4.out, HB4.out⟩
      case measure => simp [intOf]; omega
    · obtain rfl : j = 16 := by omega
      have e : T.take 16 = T := List.take_of_length_le (by rw [HTl.out]; exact Nat.le_refl _)
      rw [e] at hown
      obtain ⟨g, c2, hv, hg⟩ := own16 hown
      subst hv
      have HO := Lib.hid hown
      have HB := Lib.hid hbel
      obtain ⟨A4, c4, hv4, _, _, hr4⟩ := own_rows (l := T) (by rw [HTl.out]; exact hown)
      obtain ⟨rfl, -, rfl⟩ : A4 = some ⟨g, 0, none⟩ ∧ 16 = T.length ∧ c4 = c2 := by
        injection hv4 with h1 h2 h3
        exact ⟨h1.symm, h2, h3.symm⟩
      have HR4 := Lib.hid hr4
      clear hown hbel hv4 hr4 e
      by_cases hR : Right T
      · have hb := rightB_yes hR
        have HP := Lib.hid (HY.out hR)
        clear hR HN HY
        go_wp2_with (go_at_call 18; (with_reducible refine (rright_all T _ 16 _ _ _ HTl.out HR4.out).mono ?_); rintro e w1 ⟨he, q1, hw1⟩; obtain rfl := he; rw [hb]; have HB5 := Lib.hid (by subst hw1; exact below_drewN HB.out q1 : Below w.heap.size w w1); have HO5 := Lib.hid (by subst hw1; exact HO.out : w1.ownsRow w.heap.size 37 2 (.slice (some ⟨g, 0, none⟩) 16 c4) 16 (rowsV T)); clear hw1)
        go_ret2
        exact hands2_own (m := T) (by rw [HP.out, HTe.out]) HTl.out HO5.out HB5.out
      · have hb := rightB_no hR
        have HP := Lib.hid (HN.out hR)
        clear hR HN HY
        go_wp2_with (go_at_call 18; (with_reducible refine (rright_all T _ 16 _ _ _ HTl.out HR4.out).mono ?_); rintro e w1 ⟨he, q1, hw1⟩; obtain rfl := he; rw [hb]; have HB5 := Lib.hid (by subst hw1; exact below_drewN HB.out q1 : Below w.heap.size w w1); clear hw1)
        go_ret2
        exact hands2_nil HP.out HB5.out
/-- The document's Take. -/
theorem rtake_any (l : List UInt8) (A : Option Addr) (n c : Nat) (w : World) (hn : l.length = n) (hr : Rd w w.heap.size A (bytesV l)) :
    Calls Try.prog 23 #[.slice A n c] w fun e w' => Hands2 w (takR l) e w' := by
  by_cases h : n = 64
  · subst h
    exact rtake_rows l A c w hn hr
  · exact rtake_len A n c w h l hn
end Go.Proofs.Ytdecllllcoflbaa.Intern
