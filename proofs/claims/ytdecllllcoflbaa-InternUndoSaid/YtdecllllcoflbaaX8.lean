/-
  Rows as bytes: package intern's Lay and the document's.
-/
import Derived.Test.YtdecllllcoflbaaX7
import Derived.Test.YtdecllllcoflbaaW2
import Derived.Test.YtdecllllcoflbaaW3
namespace Go.Proofs.Ytdecllllcoflbaa.Intern
open Go.RowKit

/-- The numbers of rows, one behind the other. -/
def words : List Rw → List Nat
  | [] => []
  | r :: l => r.lab :: r.refs.toNat :: words l
theorem length_words (l : List Rw) : (words l).length = l.length * 2 := by
  induction l with
  | nil => rfl
  | cons r l ih => simp [words, ih]; omega
theorem words_append (l m : List Rw) : words (l ++ m) = words l ++ words m := by
  induction l with
  | nil => rfl
  | cons r l ih => simp [words, ih]
theorem words_step {l : List Rw} {j : Nat} {r : Rw} (h : l[j]? = some r) : words (l.take (j + 1)) = words (l.take j) ++ [r.lab, r.refs.toNat] := by
  obtain ⟨hj, rfl⟩ := List.getElem?_eq_some_iff.1 h
  rw [List.take_succ_eq_append_getElem hj, words_append]
  rfl
theorem mem_words {l : List Rw} {x : Nat} (h : x ∈ words l) : ∃ r ∈ l, x = r.lab ∨ x = r.refs.toNat := by
  induction l with
  | nil => simp [words] at h
  | cons r l ih =>
    simp only [words, List.mem_cons] at h
    rcases h with h | h | h
    · exact ⟨r, by simp, .inl h⟩
    · exact ⟨r, by simp, .inr h⟩
    · obtain ⟨s, h1, h2⟩ := ih h
      exact ⟨s, by simp [h1], h2⟩
/-- Valid rows' bytes. -/
def bytesOf (l : List Rw) : List UInt8 := layl 2 (words l)
theorem length_bytesOf (l : List Rw) : (bytesOf l).length = l.length * 4 := by
  unfold bytesOf
  rw [length_layl, length_words]; omega
theorem words_small {l : List Rw} (h : Right l) (ho : Oks l) : ∀ x ∈ words l, x < 65536 := by
  intro x hx
  obtain ⟨r, hr, h1⟩ := mem_words hx
  obtain ⟨i, hi⟩ := List.mem_iff_getElem?.1 hr
  have h2 := fits_lo (h.fits i r hi)
  have h3 := fits_hi (h.fits i r hi)
  have h4 := (ho r hr).lab
  omega

/-- Bytes, and an error, that a call hands back in memory of their own. -/
def HandsB (w : World) (bs : List UInt8) (err : Nat) (e : Ending) (w' : World) : Prop :=
  ∃ v, e = .returned (.tuple #[v, .int .i64 (err : Int)]) ∧ w'.ownsRow w.heap.size 5 1 v bs.length (bytesV bs) ∧ Below w.heap.size w w'
noncomputable def layR (l : List Rw) : List UInt8 × Nat := if rightB l then (bytesOf l, 0) else ([], 1)
theorem layR_yes {l : List Rw} (h : Right l) : layR l = (bytesOf l, 0) := by unfold layR; rw [rightB_yes h]; rfl
theorem layR_no {l : List Rw} (h : ¬ Right l) : layR l = ([], 1) := by unfold layR; rw [rightB_no h]; rfl

theorem rd_new2 {w W : World} (a b : Value) (e : TypeId) (g : Nat) (hg : g = W.heap.size) (hw : w = W.alloc (.cells #[a, b] e)) : Rd w (g + 1) (some ⟨g, 0, none⟩) [a, b] := by
  subst hg
  subst hw
  exact .inr ⟨W.heap.size, 0, rfl, Nat.lt_succ_self _, fun i v hv => by
    rw [Nat.zero_add, World.cell?_alloc_at _ _ _ _ rfl]
    simpa using hv⟩

theorem lay2 (L : List Nat) (A : Option Addr) (n c : Nat) (w : World) (hn : L.length = n) (hr : Rd w w.heap.size A (numsV L)) (hL : ∀ x ∈ L, x < 65536) (hm : n ≤ 2000) :
    Calls Try.prog 30 #[.int .i64 2, .slice A n c] w fun e w' => ∃ v, e = .returned (.tuple #[v, .int .i64 0]) ∧ Made w (layl 2 L) v w' :=
  lay_ok L A n c 2 w hn hr (by omega) (by omega) (fun x hx => Nat.lt_trans (hL x hx) (by decide)) (fun x hx => by
    have := hL x hx
    simp only [fitB, decide_eq_true_eq]
    omega) (by omega)

set_option maxHeartbeats 1600000 in
theorem lay_yes (l : List Rw) (A : Option Addr) (c : Nat) (w : World) (hn : l.length = 16) (hr : Rd w w.heap.size A (rowsV l)) (hR : Right l) (ho : Oks l) :
    Calls Try.prog 20 #[.slice A 16 c] w fun e w' => HandsB w (bytesOf l) 0 e w' := by
  obtain ⟨B, o, rfl, hB, hcc⟩ : ∃ B o, A = some ⟨B, o, none⟩ ∧ B < w.heap.size ∧ ∀ (i : Nat) r, l[i]? = some r → w.cell? ⟨B, o + i * 2, none⟩ = some (.int .u16 (r.lab : Int)) ∧ w.cell? ⟨B, o + i * 2 + 1, none⟩ = some (.int .i64 r.refs) := by
    rcases rd_rows hr with h | h
    · subst h; simp at hn
    · exact h
  have Hn := Lib.hid hn
  have Hr := Lib.hid hr
  have Hc := Lib.hid hcc
  have hb := rightB_yes hR
  have HS := Lib.hid (words_small hR ho)
  have HF := Lib.hid (fun i (b : Nat) x (h : l[i]? = some (⟨b, x⟩ : Rw)) => (⟨(ho _ (List.mem_of_getElem? h)).lab, fits_lo (hR.fits i _ h), fits_hi (hR.fits i _ h)⟩ : b < 65536 ∧ 0 ≤ x ∧ x ≤ 65535))
  clear hn hr hR ho hcc
  go_enter Try.func20, Try.ntmps20
  go_wp2_with (go_at_call 17; (with_reducible refine (right_all l _ 16 c _ Hn.out Hr.out).mono ?_); rintro e w1 ⟨he, hb1⟩; obtain rfl := he; rw [hb]; have HB1 := Lib.hid hb1; clear hb1)
  go_loopw [4, 6, 12] (fun v _ i wr => ∃ j : Nat, j ≤ 16 ∧ i = .int .i64 (j : Int) ∧ wr.ownsRow w.heap.size 57 1 v (j * 2) (numsV (words (l.take j))) ∧ Below w.heap.size w wr) (fun _ _ i _ => 16 - (intOf i).toNat)
  case atStart => exact ⟨0, Nat.zero_le _, rfl, World.ownsRow_nil _ _ _ _, HB1.out⟩
  case round =>
    obtain ⟨j, hj, rfl, hown, hbel⟩ := hrel
    by_cases hlt : j < 16
    · obtain ⟨⟨b, x⟩, hrj⟩ : ∃ r, l[j]? = some r := ⟨_, List.getElem?_eq_getElem (by rw [Hn.out]; exact hlt)⟩
      obtain ⟨hb6, hx0, hx1⟩ := HF.out j b x hrj
      obtain ⟨m, rfl⟩ : ∃ m : Nat, x = (m : Int) := ⟨x.toNat, by omega⟩
      obtain ⟨c0, c1⟩ := Hc.out j ⟨b, (m : Int)⟩ hrj
      replace c0 := (hbel.cell hB).trans c0
      replace c1 := (hbel.cell hB).trans c1
      simp only at c0 c1
      have hs := Nat.lt_of_lt_of_le hB hbel.size
      have HW := Lib.hid (words_step hrj)
      have e1 : IntKind.u64.wrap (b : Int) = (b : Int) := by rw [IntKind.wrap_u64]; omega
      have e2 : IntKind.u64.wrap (m : Int) = (m : Int) := by rw [IntKind.wrap_u64]; omega
      have hsz := hbel.size
      have HO := Lib.hid hown
      have HB := Lib.hid hbel
      clear hrj hown hbel
      go_wp2_with (at_builtin; refine wpList_app23 _ rfl (.tmp 16) (.tmp 23) rfl w.heap.size _ (j * 2) (words (l.take j)) rfl ((HO.out.alloc _).alloc _) (wr.heap.size + 1 + 1) _ 2 2 [b, m] rfl rfl (rd_new2 (numV b) (numV m) 57 (wr.heap.size + 1) ?c1 rfl) ?c3 ?c4 ?_)
      case c3 => omega
      case c4 => omega
      intro v' w3 hown' hg'
      have hm2 : ((m : Int)).toNat = m := Int.toNat_natCast m
      have HO3 := Lib.hid (show w3.ownsRow w.heap.size 57 1 v' ((j + 1) * 2) (numsV (words (l.take (j + 1)))) by
        rw [HW.out, hm2, Nat.add_mul]; exact hown')
      have HB3 := Lib.hid (((HB.out.alloc hsz _).alloc (by simp; omega) _).grown hg' (by simp; omega) (fun k hk => (HO.out.lt k hk).1))
      clear hown' hg'
      go_wp2
      go_roundw
      case rel => exact ⟨j + 1, by omega, by go_num, HO3.out, HB3.out⟩
      case measure => simp [intOf]; omega
    · obtain rfl : j = 16 := by omega
      have e : l.take 16 = l := List.take_of_length_le (by rw [Hn.out]; exact Nat.le_refl _)
      rw [e] at hown
      obtain ⟨_, A2, c2, rfl, _, _, hr2⟩ := own_rd hown
      have HR2 := Lib.hid hr2
      have hlw : (words l).length = 32 := by rw [length_words, Hn.out]
      have HLW := Lib.hid hlw
      have HB := Lib.hid hbel
      clear hown hbel hr2 hlw
      go_wp2_with (go_at_call 30; (with_reducible refine (lay2 (words l) A2 32 c2 _ HLW.out HR2.out HS.out (by omega)).mono ?_); rintro e w4 ⟨v4, he, hm4⟩; obtain rfl := he; have HM := Lib.hid hm4; clear hm4)
      go_ret2
      exact ⟨_, rfl, own_mono HM.out.1 HB.out.size, HB.out.trans (HM.out.2.mono HB.out.size)⟩

set_option maxHeartbeats 800000 in
theorem lay_no (l : List Rw) (A : Option Addr) (n c : Nat) (w : World) (hn : l.length = n) (hr : Rd w w.heap.size A (rowsV l)) (hR : ¬ Right l) :
    Calls Try.prog 20 #[.slice A n c] w fun e w' => HandsB w [] 1 e w' := by
  have Hn := Lib.hid hn
  have Hr := Lib.hid hr
  have hb := rightB_no hR
  clear hn hr hR
  go_enter Try.func20, Try.ntmps20
  go_wp2_with (go_at_call 17; (with_reducible refine (right_all l _ n c _ Hn.out Hr.out).mono ?_); rintro e w1 ⟨he, hb1⟩; obtain rfl := he; rw [hb]; have HB1 := Lib.hid hb1; clear hb1)
  go_ret2
  exact ⟨_, rfl, World.ownsRow_nil _ _ _ _, HB1.out⟩
/-- Lay. -/
theorem lay_rows (l : List Rw) (A : Option Addr) (n c : Nat) (w : World) (hn : l.length = n) (hr : Rd w w.heap.size A (rowsV l)) (ho : Oks l) :
    Calls Try.prog 20 #[.slice A n c] w fun e w' => HandsB w (layR l).1 (layR l).2 e w' := by
  by_cases hR : Right l
  · have h16 := hR.len
    rw [hn] at h16
    subst h16
    rw [layR_yes hR]
    exact lay_yes l A c w hn hr hR ho
  · rw [layR_no hR]
    exact lay_no l A n c w hn hr hR

/-- A number of two bytes. -/
theorem num2 (n : Nat) (w : World) (hn : n < 65536) :
    Calls Try.prog 31 #[.int .u64 (n : Int), .int .i64 2] w fun e w' => ∃ A c, e = .returned (.slice A 2 c) ∧ 2 ≤ c ∧ Rd w' w'.heap.size A (bytesV (digs n 2)) ∧ Below w.heap.size w w' := by
  refine (num_any n 2 w (by omega) (by omega)).mono ?_
  rintro e w' ⟨v, rfl, hown, hb⟩
  obtain ⟨_, A, c, rfl, hc, _, hr⟩ := own_rd hown
  exact ⟨A, c, rfl, hc, hr, hb⟩

theorem bytes_step {l : List Rw} {j b m : Nat} (h : l[j]? = some ⟨b, (m : Int)⟩) : bytesOf (l.take (j + 1)) = (bytesOf (l.take j) ++ digs b 2) ++ digs m 2 := by
  unfold bytesOf
  rw [words_step h, layl_append]
  simp [layl]

set_option maxHeartbeats 1600000 in
theorem rlay_yes (l : List Rw) (A : Option Addr) (c : Nat) (w : World) (hn : l.length = 16) (hr : Rd w w.heap.size A (rowsV l)) (hR : Right l) (ho : Oks l) :
    Calls Try.prog 21 #[.slice A 16 c] w fun e w' => HandsB w (bytesOf l) 0 e w' := by
  obtain ⟨B, o, rfl, hB, hcc⟩ : ∃ B o, A = some ⟨B, o, none⟩ ∧ B < w.heap.size ∧ ∀ (i : Nat) r, l[i]? = some r → w.cell? ⟨B, o + i * 2, none⟩ = some (.int .u16 (r.lab : Int)) ∧ w.cell? ⟨B, o + i * 2 + 1, none⟩ = some (.int .i64 r.refs) := by
    rcases rd_rows hr with h | h
    · subst h; simp at hn
    · exact h
  have Hn := Lib.hid hn
  have Hr := Lib.hid hr
  have Hc := Lib.hid hcc
  have hb := rightB_yes hR
  have HF := Lib.hid (fun i (b : Nat) x (h : l[i]? = some (⟨b, x⟩ : Rw)) => (⟨(ho _ (List.mem_of_getElem? h)).lab, fits_lo (hR.fits i _ h), fits_hi (hR.fits i _ h)⟩ : b < 65536 ∧ 0 ≤ x ∧ x ≤ 65535))
  clear hn hr hR ho hcc
  go_enter Try.func21, Try.ntmps21
  go_wp2_with (go_at_call 18; (with_reducible refine (rright_all l _ 16 c _ _ Hn.out Hr.out).mono ?_); rintro e w1 ⟨he, q1, hw1⟩; obtain rfl := he; rw [hb]; have HB1 := Lib.hid (by subst hw1; exact below_drewN (Below.refl _ _) q1 : Below w.heap.size w w1); clear hw1)
  go_loopw [4, 5] (fun v i wr => ∃ j : Nat, j ≤ 16 ∧ i = .int .i64 (j : Int) ∧ wr.ownsRow w.heap.size 5 1 v (j * 4) (bytesV (bytesOf (l.take j))) ∧ Below w.heap.size w wr) (fun _ i _ => 16 - (intOf i).toNat)
  case atStart => exact ⟨0, Nat.zero_le _, rfl, World.ownsRow_nil _ _ _ _, HB1.out⟩
  case round =>
    obtain ⟨j, hj, rfl, hown, hbel⟩ := hrel
    by_cases hlt : j < 16
    · obtain ⟨⟨b, x⟩, hrj⟩ : ∃ r, l[j]? = some r := ⟨_, List.getElem?_eq_getElem (by rw [Hn.out]; exact hlt)⟩
      obtain ⟨hb6, hx0, hx1⟩ := HF.out j b x hrj
      obtain ⟨m, rfl⟩ : ∃ m : Nat, x = (m : Int) := ⟨x.toNat, by omega⟩
      obtain ⟨c0, c1⟩ := Hc.out j ⟨b, (m : Int)⟩ hrj
      simp only at c0 c1
      have HC0 := Lib.hid c0
      have HC1 := Lib.hid c1
      replace c0 := (hbel.cell hB).trans c0
      have hs := Nat.lt_of_lt_of_le hB hbel.size
      have HW := Lib.hid (bytes_step hrj)
      have e1 : IntKind.u64.wrap (b : Int) = (b : Int) := by rw [IntKind.wrap_u64]; omega
      have e2 : IntKind.u64.wrap (m : Int) = (m : Int) := by rw [IntKind.wrap_u64]; omega
      have hsz := hbel.size
      have HO := Lib.hid hown
      have HB := Lib.hid hbel
      have hji : (j : Int) < 16 := by omega
      clear hrj hown hbel c1
      go_wp2_with (first
        | (go_at_call 31; (with_reducible refine (num2 b _ hb6).mono ?_); rintro e w3 ⟨A3, k3, he, _, hr3, hb3⟩; obtain rfl := he; have HR3 := Lib.hid hr3; have HO3 := Lib.hid (own_below HO.out hb3); have HB3 := Lib.hid (HB.out.trans (hb3.mono HB.out.size)); clear hr3 hb3)
        | (at_builtin; refine wpList_app5 _ rfl (.tmp 15) (.tmp 22) rfl w.heap.size _ (j * 4) (bytesOf (l.take j)) rfl HO3.out _ _ 2 _ (digs b 2) rfl (length_digs _ _) HR3.out (by omega) HB3.out.size ?_; intro v4 w4 hown4 hg4; have HO4 := Lib.hid hown4; have HB4 := Lib.hid (HB3.out.grown hg4 HB3.out.size (fun k hk => (HO3.out.lt k hk).1)); have hs4 := Nat.lt_of_lt_of_le hB HB4.out.size; have c1 := (HB4.out.cell hB).trans HC1.out; clear hown4 hg4)
        | (go_at_call 31; (with_reducible refine (num2 m _ (by omega)).mono ?_); rintro e w5 ⟨A5, k5, he, _, hr5, hb5⟩; obtain rfl := he; have HR5 := Lib.hid hr5; have HO5 := Lib.hid (own_below HO4.out hb5); have HB5 := Lib.hid (HB4.out.trans (hb5.mono HB4.out.size)); clear hr5 hb5)
        | (at_builtin; refine wpList_app5 _ rfl (.tmp 24) (.tmp 31) rfl w.heap.size _ (j * 4 + 2) (bytesOf (l.take j) ++ digs b 2) rfl HO5.out _ _ 2 _ (digs m 2) rfl (length_digs _ _) HR5.out (by omega) HB5.out.size ?_; intro v6 w6 hown6 hg6; have HO6 := Lib.hid (show w6.ownsRow w.heap.size 5 1 v6 ((j + 1) * 4) (bytesV (bytesOf (l.take (j + 1)))) by (rw [HW.out, Nat.add_mul]; exact hown6)); have HB6 := Lib.hid (HB5.out.grown hg6 HB5.out.size (fun k hk => (HO5.out.lt k hk).1)); clear hown6 hg6))
      go_roundw
      case rel => exact ⟨j + 1, by omega, by go_num, HO6.out, HB6.out⟩
      case measure => simp [intOf]; omega
    · obtain rfl : j = 16 := by omega
      have e : l.take 16 = l := List.take_of_length_le (by rw [Hn.out]; exact Nat.le_refl _)
      rw [e] at hown
      have HO := Lib.hid hown
      have HB := Lib.hid hbel
      clear hown hbel
      go_wp2
      go_ret2
      exact ⟨_, rfl, by rw [length_bytesOf, Hn.out]; exact HO.out, HB.out⟩

set_option maxHeartbeats 800000 in
theorem rlay_no (l : List Rw) (A : Option Addr) (n c : Nat) (w : World) (hn : l.length = n) (hr : Rd w w.heap.size A (rowsV l)) (hR : ¬ Right l) :
    Calls Try.prog 21 #[.slice A n c] w fun e w' => HandsB w [] 1 e w' := by
  have Hn := Lib.hid hn
  have Hr := Lib.hid hr
  have hb := rightB_no hR
  clear hn hr hR
  go_enter Try.func21, Try.ntmps21
  go_wp2_with (go_at_call 18; (with_reducible refine (rright_all l _ n c _ _ Hn.out Hr.out).mono ?_); rintro e w1 ⟨he, q1, hw1⟩; obtain rfl := he; rw [hb]; have HB1 := Lib.hid (by subst hw1; exact below_drewN (Below.refl _ _) q1 : Below w.heap.size w w1); clear hw1)
  go_ret2
  exact ⟨_, rfl, World.ownsRow_nil _ _ _ _, HB1.out⟩
/-- The document's Lay. -/
theorem rlay_rows (l : List Rw) (A : Option Addr) (n c : Nat) (w : World) (hn : l.length = n) (hr : Rd w w.heap.size A (rowsV l)) (ho : Oks l) :
    Calls Try.prog 21 #[.slice A n c] w fun e w' => HandsB w (layR l).1 (layR l).2 e w' := by
  by_cases hR : Right l
  · have h16 := hR.len
    rw [hn] at h16
    subst h16
    rw [layR_yes hR]
    exact rlay_yes l A c w hn hr hR ho
  · rw [layR_no hR]
    exact rlay_no l A n c w hn hr hR
end Go.Proofs.Ytdecllllcoflbaa.Intern
