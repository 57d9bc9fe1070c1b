/-
  The document's Retain and Release.
-/
import Derived.Test.YtaflpigpeckhoaaGreatQInternA
import Derived.Laws.StructEq
import Derived.Test.YtaflpigpeckhoaaGreatQF
namespace Go.Proofs.YtaflpigpeckhoaaGreat.Intern
open Go.RowKit

theorem given_own {w w' : World} {v : Value} {m : List Rw} (hm : m.length = 16) (ho : w'.ownsRow w.heap.size 117 2 v 16 (rowsV m)) (hb : Below w.heap.size w w') : Given w w' v m := ⟨by rw [hm]; exact ho, hb⟩
theorem hands3_own {w w' : World} {r : Res} {m : List Rw} {i : Nat} {v : Value} (hr : r = ⟨m, i, 0⟩) (hm : m.length = 16) (ho : w'.ownsRow w.heap.size 117 2 v 16 (rowsV m)) (hb : Below w.heap.size w w') :
    Hands3 w r (.returned (.tuple #[v, .int .i64 (i : Int), .int .i64 0])) w' := by
  subst hr
  exact ⟨_, rfl, given_own hm ho hb⟩
theorem hands2_own {w w' : World} {r : Res} {m : List Rw} {v : Value} (hr : r = ⟨m, 0, 0⟩) (hm : m.length = 16) (ho : w'.ownsRow w.heap.size 117 2 v 16 (rowsV m)) (hb : Below w.heap.size w w') :
    Hands2 w r (.returned (.tuple #[v, .int .i64 0])) w' := by
  subst hr
  exact ⟨_, rfl, given_own hm ho hb⟩
/-- A label that is struck behind refs that are 0. -/
theorem own_zero {w : World} {base g c i b : Nat} {l : List Rw} (h : w.ownsRow base 117 2 (.slice (some ⟨g, 0, none⟩) 16 c) 16 (rowsV (l.set i ⟨b, 0⟩))) (hi : i < l.length) :
    (w.setCell ⟨g, i * 2, none⟩ (.int .u16 0)).ownsRow base 117 2 (.slice (some ⟨g, 0, none⟩) 16 c) 16 (rowsV (l.set i .z)) := by
  have h1 := (h.stored (i * 2) (.int .u16 0)).1
  have e : (rowsV (l.set i ⟨b, 0⟩)).set (i * 2) (.int .u16 0) = rowsV (l.set i .z) := by
    rw [rowsV_set l i _ hi, rowsV_set l i _ hi, List.set_comm _ _ (by omega), List.set_set]
    rfl
  rw [e] at h1
  exact h1

end Go.Proofs.YtaflpigpeckhoaaGreat.Intern

/-
  Rows compared; what the statements' own helpers do: free rows, the first twenty, whether two lists are the same.
-/
namespace Go.Proofs.YtaflpigpeckhoaaGreat.Intern
open Go.RowKit

theorem under37 : Tryz.prog.underlying 117 = some (.struct (Tryz.prog.fieldsOf 117)) := by kernel_rfl
theorem guard37 : Tryz.prog.eqGuardType Tryz.prog.depth 117 = false := by kernel_rfl
theorem guard_at37 (x y : Operand) (xs ys : Array Value) (op : BinOp) (W : World) : (eqGuard op 117 x y (.agg xs) (.agg ys)).run Tryz.prog W = .ok () W := run_eqGuard_agg W op 117 x y xs ys guard37
theorem part_u16 (xs : Array Value) (k : Nat) (x : Int) (h : xs[k]? = some (.int .u16 x)) (W : World) : (part 48 xs k).run Tryz.prog W = .ok (.int .u16 x) W := by
  unfold part
  simp [h, go_sem]
theorem part_i64 (xs : Array Value) (k : Nat) (x : Int) (h : xs[k]? = some (.int .i64 x)) (W : World) : (part 3 xs k).run Tryz.prog W = .ok (.int .i64 x) W := by
  unfold part
  simp [h, go_sem]
theorem two_of {α : Type} {l : List α} (h : l.length = 2) : ∃ a b, l = [a, b] := by
  match l, h with
  | [a, b], _ => exact ⟨a, b, rfl⟩
/-- Like rows are like. -/
theorem row_nsame (a : Nat) (x : Int) (W : World) : (binOp .neq 117 (.agg #[.int .u16 (a : Int), .int .i64 x]) (.agg #[.int .u16 (a : Int), .int .i64 x])).run Tryz.prog W = .ok (.bool false) W := by
  have hl : (Tryz.prog.fieldsOf 117).toList.length = 2 := by kernel_rfl
  have hm : (Tryz.prog.fieldsOf 117).toList.map (fun f => (f.name == "_", f.type, f.offset)) = [(false, 48, 0), (false, 3, 1)] := by kernel_rfl
  obtain ⟨f0, f1, e⟩ := two_of hl
  rw [e] at hm
  simp only [List.map_cons, List.map_nil, List.cons.injEq, Prod.mk.injEq, and_true] at hm
  obtain ⟨⟨n0, t0, o0⟩, n1, t1, o1⟩ := hm
  have n0 : f0.name ≠ "_" := by simpa using n0
  have n1 : f1.name ≠ "_" := by simpa using n1
  have h : (Op.eqFields 9999 #[.int .u16 (a : Int), .int .i64 x] #[.int .u16 (a : Int), .int .i64 x] (Tryz.prog.fieldsOf 117).toList).run Tryz.prog W = .ok true W := by
    rw [e]
    have p0 := part_u16 #[.int .u16 (a : Int), .int .i64 x] 0 a rfl W
    have p1 := part_i64 #[.int .u16 (a : Int), .int .i64 x] 1 x rfl W
    have e0 := run_equalIn_int (P := Tryz.prog) W 9998 48 .u16 .u16 (a : Int) (a : Int) Tryz.underlying48
    have e1 := run_equalIn_int (P := Tryz.prog) W 9998 3 .i64 .i64 x x Tryz.underlying3
    simp only [Op.eqFields, n0, n1, t0, t1, o0, o1, ne_eq, not_false_eq_true, if_true]
    simp [p0, p1, e0, e1]
  rw [run_neq_struct, run_equalIn_agg W 9999 117 _ _ under37 (by kernel_rfl), h]
  rfl

end Go.Proofs.YtaflpigpeckhoaaGreat.Intern

/-
  Rows as bytes: package intern's Lay and the document's.
-/
namespace Go.Proofs.YtaflpigpeckhoaaGreat.Intern
open Go.RowKit

/-- The numbers of rows, one behind the other. -/
def words : List Rw → List Nat
  | [] => []
  | r :: l => r.lab :: r.refs.toNat :: words l
theorem length_words (l : List Rw) : (words l).length = l.length * 2 := by
  induction l with
  | nil => rfl
  | cons r l ih => simp [words, ih]; omega
theorem words_append (l m : List Rw) : words (l ++ m) = words l ++ words m := by
  induction l with
  | nil => rfl
  | cons r l ih => simp [words, ih]
theorem words_step {l : List Rw} {j : Nat} {r : Rw} (h : l[j]? = some r) : words (l.take (j + 1)) = words (l.take j) ++ [r.lab, r.refs.toNat] := by
  obtain ⟨hj, rfl⟩ := List.getElem?_eq_some_iff.1 h
  rw [List.take_succ_eq_append_getElem hj, words_append]
  rfl
theorem mem_words {l : List Rw} {x : Nat} (h : x ∈ words l) : ∃ r ∈ l, x = r.lab ∨ x = r.refs.toNat := by
  induction l with
  | nil => simp [words] at h
  | cons r l ih =>
    simp only [words, List.mem_cons] at h
    rcases h with h | h | h
    · exact ⟨r, by simp, .inl h⟩
    · exact ⟨r, by simp, .inr h⟩
    · obtain ⟨s, h1, h2⟩ := ih h
      exact ⟨s, by simp [h1], h2⟩
/-- Valid rows' bytes. -/
def bytesOf (l : List Rw) : List UInt8 := layl 2 (words l)
theorem length_bytesOf (l : List Rw) : (bytesOf l).length = l.length * 4 := by
  unfold bytesOf
  rw [length_layl, length_words]; omega
theorem words_small {l : List Rw} (h : Right l) (ho : Oks l) : ∀ x ∈ words l, x < 65536 := by
  intro x hx
  obtain ⟨r, hr, h1⟩ := mem_words hx
  obtain ⟨i, hi⟩ := List.mem_iff_getElem?.1 hr
  have h2 := fits_lo (h.fits i r hi)
  have h3 := fits_hi (h.fits i r hi)
  have h4 := (ho r hr).lab
  omega

/-- Bytes, and an error, that a call hands back in memory of their own. -/
def HandsB (w : World) (bs : List UInt8) (err : Nat) (e : Ending) (w' : World) : Prop :=
  ∃ v, e = .returned (.tuple #[v, .int .i64 (err : Int)]) ∧ w'.ownsRow w.heap.size 5 1 v bs.length (bytesV bs) ∧ Below w.heap.size w w'
noncomputable def layR (l : List Rw) : List UInt8 × Nat := if rightB l then (bytesOf l, 0) else ([], 1)
theorem layR_yes {l : List Rw} (h : Right l) : layR l = (bytesOf l, 0) := by unfold layR; rw [rightB_yes h]; rfl
theorem layR_no {l : List Rw} (h : ¬ Right l) : layR l = ([], 1) := by unfold layR; rw [rightB_no h]; rfl

theorem rd_new2 {w W : World} (a b : Value) (e : TypeId) (g : Nat) (hg : g = W.heap.size) (hw : w = W.alloc (.cells #[a, b] e)) : Rd w (g + 1) (some ⟨g, 0, none⟩) [a, b] := by
  subst hg
  subst hw
  exact .inr ⟨W.heap.size, 0, rfl, Nat.lt_succ_self _, fun i v hv => by
    rw [Nat.zero_add, World.cell?_alloc_at _ _ _ _ rfl]
    simpa using hv⟩

theorem lay2 (L : List Nat) (A : Option Addr) (n c : Nat) (w : World) (hn : L.length = n) (hr : Rd w w.heap.size A (numsV L)) (hL : ∀ x ∈ L, x < 65536) (hm : n ≤ 2000) :
    Calls Tryz.prog 52 #[.int .i64 2, .slice A n c] w fun e w' => ∃ v, e = .returned (.tuple #[v, .int .i64 0]) ∧ Made w (layl 2 L) v w' :=
  lay_ok L A n c 2 w hn hr (by omega) (by omega) (fun x hx => Nat.lt_trans (hL x hx) (by decide)) (fun x hx => by
    have := hL x hx
    simp only [fitB, decide_eq_true_eq]
    omega) (by omega)

set_option maxHeartbeats 1600000 in
theorem lay_yes (l : List Rw) (A : Option Addr) (c : Nat) (w : World) (hn : l.length = 16) (hr : Rd w w.heap.size A (rowsV l)) (hR : Right l) (ho : Oks l) :
    Calls Tryz.prog 24 #[.slice A 16 c] w fun e w' => HandsB w (bytesOf l) 0 e w' := by
  obtain ⟨B, o, rfl, hB, hcc⟩ : ∃ B o, A = some ⟨B, o, none⟩ ∧ B < w.heap.size ∧ ∀ (i : Nat) r, l[i]? = some r → w.cell? ⟨B, o + i * 2, none⟩ = some (.int .u16 (r.lab : Int)) ∧ w.cell? ⟨B, o + i * 2 + 1, none⟩ = some (.int .i64 r.refs) := by
    rcases rd_rows hr with h | h
    · subst h; simp at hn
    · exact h
  have Hn := Lib.hid hn
  have Hr := Lib.hid hr
  have Hc := Lib.hid hcc
  have hb := rightB_yes hR
  have HS := Lib.hid (words_small hR ho)
  have HF := Lib.hid (fun i (b : Nat) x (h : l[i]? = some (⟨b, x⟩ : Rw)) => (⟨(ho _ (List.mem_of_getElem? h)).lab, fits_lo (hR.fits i _ h), fits_hi (hR.fits i _ h)⟩ : b < 65536 ∧ 0 ≤ x ∧ x ≤ 65535))
  clear hn hr hR ho hcc
  go_enter Tryz.func24, Tryz.ntmps24
  go_wp2_with (go_at_call 48; (with_reducible refine (right_all l _ 16 c _ Hn.out Hr.out).mono ?_); rintro e w1 ⟨he, hb1⟩; obtain rfl := he; rw [hb]; have HB1 := Lib.hid hb1; clear hb1)
  go_loopw [4, 6, 12] (fun v _ i wr => ∃ j : Nat, j ≤ 16 ∧ i = .int .i64 (j : Int) ∧ wr.ownsRow w.heap.size 23 1 v (j * 2) (numsV (words (l.take j))) ∧ Below w.heap.size w wr) (fun _ _ i _ => 16 - (intOf i).toNat)
  case atStart => exact ⟨0, Nat.zero_le _, rfl, World.ownsRow_nil _ _ _ _, HB1.out⟩
  case round =>
    obtain ⟨j, hj, rfl, hown, hbel⟩ := hrel
    by_cases hlt : j < 16
    · obtain ⟨⟨b, x⟩, hrj⟩ : ∃ r, l[j]? = some r := ⟨_, List.getElem?_eq_getElem (by rw [Hn.out]; exact hlt)⟩
      obtain ⟨hb6, hx0, hx1⟩ := HF.out j b x hrj
      obtain ⟨m, rfl⟩ : ∃ m : Nat, x = (m : Int) := ⟨x.toNat, by omega⟩
      obtain ⟨c0, c1⟩ := Hc.out j ⟨b, (m : Int)⟩ hrj
      replace c0 := (hbel.cell hB).trans c0
      replace c1 := (hbel.cell hB).trans c1
      simp only at c0 c1
      have hs := Nat.lt_of_lt_of_le hB hbel.size
      have HW := Lib.hid (words_step hrj)
      have e1 : IntKind.u64.wrap (b : Int) = (b : Int) := by rw [IntKind.wrap_u64]; omega
      have e2 : IntKind.u64.wrap (m : Int) = (m : Int) := by rw [IntKind.wrap_u64]; omega
      have hsz := hbel.size
      have HO := Lib.hid hown
      have HB := Lib.hid hbel
      clear hrj hown hbel
      go_wp2_with (at_builtin; refine wpList_app23 _ rfl (.tmp 16) (.tmp 23) rfl w.heap.size _ (j * 2) (words (l.take j)) rfl ((HO.out.alloc _).alloc _) (wr.heap.size + 1 + 1) _ 2 2 [b, m] rfl rfl (rd_new2 (numV b) (numV m) 23 (wr.heap.size + 1) ?c1 rfl) ?c3 ?c4 ?_)
      case c3 => omega
      case c4 => omega
      intro v' w3 hown' hg'
      have hm2 : ((m : Int)).toNat = m := Int.toNat_natCast m
      have HO3 := Lib.hid (show w3.ownsRow w.heap.size 23 1 v' ((j + 1) * 2) (numsV (words (l.take (j + 1)))) by
        rw [HW.out, hm2, Nat.add_mul]; exact hown')
      have HB3 := Lib.hid (((HB.out.alloc hsz _).alloc (by simp; omega) _).grown hg' (by simp; omega) (fun k hk => (HO.out.lt k hk).1))
      clear hown' hg'
      go_wp2
      go_roundw
      case rel => exact ⟨j + 1, by omega, by go_num, HO3.out, HB3.out⟩
      case measure => simp [intOf]; omega
    · obtain rfl : j = 16 := by omega
      have e : l.take 16 = l := List.take_of_length_le (by rw [Hn.out]; exact Nat.le_refl _)
      rw [e] at hown
      obtain ⟨_, A2, c2, rfl, _, _, hr2⟩ := own_rd hown
      have HR2 := Lib.hid hr2
      have hlw : (words l).length = 32 := by rw [length_words, Hn.out]
      have HLW := Lib.hid hlw
      have HB := Lib.hid hbel
      clear hown hbel hr2 hlw
      go_wp2_with (go_at_call 52; (with_reducible refine (lay2 (words l) A2 32 c2 _ HLW.out HR2.out HS.out (by omega)).mono ?_); rintro e w4 ⟨v4, he, hm4⟩; obtain rfl := he; have HM := Lib.hid hm4; clear hm4)
      go_ret2
      exact ⟨_, rfl, own_mono HM.out.1 HB.out.size, HB.out.trans (HM.out.2.mono HB.out.size)⟩

set_option maxHeartbeats 800000 in
theorem lay_no (l : List Rw) (A : Option Addr) (n c : Nat) (w : World) (hn : l.length = n) (hr : Rd w w.heap.size A (rowsV l)) (hR : ¬ Right l) :
    Calls Tryz.prog 24 #[.slice A n c] w fun e w' => HandsB w [] 1 e w' := by
  have Hn := Lib.hid hn
  have Hr := Lib.hid hr
  have hb := rightB_no hR
  clear hn hr hR
  go_enter Tryz.func24, Tryz.ntmps24
  go_wp2_with (go_at_call 48; (with_reducible refine (right_all l _ n c _ Hn.out Hr.out).mono ?_); rintro e w1 ⟨he, hb1⟩; obtain rfl := he; rw [hb]; have HB1 := Lib.hid hb1; clear hb1)
  go_ret2
  exact ⟨_, rfl, World.ownsRow_nil _ _ _ _, HB1.out⟩
/-- Lay. -/
theorem lay_rows (l : List Rw) (A : Option Addr) (n c : Nat) (w : World) (hn : l.length = n) (hr : Rd w w.heap.size A (rowsV l)) (ho : Oks l) :
    Calls Tryz.prog 24 #[.slice A n c] w fun e w' => HandsB w (layR l).1 (layR l).2 e w' := by
  by_cases hR : Right l
  · have h16 := hR.len
    rw [hn] at h16
    subst h16
    rw [layR_yes hR]
    exact lay_yes l A c w hn hr hR ho
  · rw [layR_no hR]
    exact lay_no l A n c w hn hr hR

theorem bytes_step {l : List Rw} {j b m : Nat} (h : l[j]? = some ⟨b, (m : Int)⟩) : bytesOf (l.take (j + 1)) = (bytesOf (l.take j) ++ digs b 2) ++ digs m 2 := by
  unfold bytesOf
  rw [words_step h, layl_append]
  simp [layl]

end Go.Proofs.YtaflpigpeckhoaaGreat.Intern

/-
  Rows out of bytes: package intern's Take and the document's.
-/
namespace Go.Proofs.YtaflpigpeckhoaaGreat.Intern
open Go.RowKit

/-- The rows that numbers stand for. -/
def rowsOf (ws : List Nat) : List Rw := (List.range 16).map fun i => ⟨ws.getD (2 * i) 0, (ws.getD (2 * i + 1) 0 : Nat)⟩
theorem length_rowsOf (ws : List Nat) : (rowsOf ws).length = 16 := by simp [rowsOf]
theorem rowsOf_at {ws : List Nat} {j a m : Nat} (hj : j < 16) (h0 : ws[2 * j]? = some a) (h1 : ws[2 * j + 1]? = some m) : (rowsOf ws)[j]? = some ⟨a, (m : Int)⟩ := by
  simp [rowsOf, hj, List.getD_eq_getElem?_getD, h0, h1]
/-- Rows that are being filled. -/
def partR (T : List Rw) (j : Nat) : List Rw := T.take j ++ List.replicate (16 - j) .z
theorem partR_zero (T : List Rw) : partR T 0 = frees := by simp [partR, frees]
theorem partR_all {T : List Rw} (h : T.length = 16) : partR T 16 = T := by
  unfold partR
  rw [List.take_of_length_le (by omega)]
  simp
theorem length_partR {T : List Rw} (h : T.length = 16) {j : Nat} (hj : j ≤ 16) : (partR T j).length = 16 := by simp [partR]; omega
theorem partR_step {T : List Rw} (h : T.length = 16) {j : Nat} {r : Rw} (hr : T[j]? = some r) : (partR T j).set j r = partR T (j + 1) := by
  obtain ⟨hj, rfl⟩ := List.getElem?_eq_some_iff.1 hr
  have e : 16 - j = (16 - (j + 1)) + 1 := by omega
  have hl : (T.take j).length = j := by simp; omega
  unfold partR
  rw [e, List.replicate_succ, List.set_append_right _ _ (by omega), hl, List.take_succ_eq_append_getElem hj]
  simp only [Nat.sub_self, List.set_cons_zero, List.append_assoc, List.cons_append, List.nil_append]
noncomputable def takR (bs : List UInt8) : Res :=
  if bs.length = 64 then if rightB (rowsOf (takel 2 bs)) then ⟨rowsOf (takel 2 bs), 0, 0⟩ else .bad 100 else .bad 100
theorem takR_len {bs : List UInt8} (h : bs.length ≠ 64) : takR bs = .bad 100 := by unfold takR; rw [if_neg h]
theorem takR_yes {bs : List UInt8} (h : bs.length = 64) (hR : Right (rowsOf (takel 2 bs))) : takR bs = ⟨rowsOf (takel 2 bs), 0, 0⟩ := by unfold takR; rw [if_pos h, rightB_yes hR]; rfl
theorem takR_no {bs : List UInt8} (h : bs.length = 64) (hR : ¬ Right (rowsOf (takel 2 bs))) : takR bs = .bad 100 := by unfold takR; rw [if_pos h, rightB_no hR]; rfl

theorem take_len (A : Option Addr) (n c : Nat) (w : World) (h : n ≠ 64) (bs : List UInt8) (hb : bs.length = n) : Calls Tryz.prog 36 #[.slice A n c] w fun e w' => Hands2 w (takR bs) e w' := by
  have hP := takR_len (bs := bs) (by omega)
  have hn : ((n : Int) != 64) = true := by simp; omega
  have HP := Lib.hid hP
  clear hP
  go_enter Tryz.func36, Tryz.ntmps36
  go_wp2
  go_ret2
  exact hands2_nil HP.out (Below.refl _ _)
theorem take2 (l : List UInt8) (A : Option Addr) (c : Nat) (w : World) (hn : l.length = 64) (hr : Rd w w.heap.size A (bytesV l)) (hc : 64 ≤ c) :
    Calls Tryz.prog 69 #[.int .i64 2, .slice A 64 c] w fun e w' => ∃ v, e = .returned (.tuple #[v, .int .i64 0]) ∧ MadeN w (takel 2 l) v w' :=
  take_ok l A 64 c 32 2 w hn hr hc (by omega) (by omega) (by omega) (by omega)
theorem takel_small (l : List UInt8) : ∀ x ∈ takel 2 l, x < 65536 := by
  intro x hx
  simp only [takel, List.mem_map, List.mem_range] at hx
  obtain ⟨k, _, rfl⟩ := hx
  have h1 := le_lt ((l.drop (k * 2)).take 2)
  have h2 : ((l.drop (k * 2)).take 2).length ≤ 2 := by rw [List.length_take]; omega
  have h3 : 256 ^ ((l.drop (k * 2)).take 2).length ≤ 256 ^ 2 := Nat.pow_le_pow_right (by omega) h2
  have h4 : (256 : Nat) ^ 2 = 65536 := rfl
  omega
theorem rd_nums {w : World} {B : Nat} {A : Option Addr} {l : List Nat} (h : Rd w B A (numsV l)) (hl : l ≠ []) : ∃ b o, A = some ⟨b, o, none⟩ ∧ b < B ∧ ∀ (i : Nat) x, l[i]? = some x → w.cell? ⟨b, o + i, none⟩ = some (.int .u64 (x : Int)) := by
  rcases h with h | ⟨b, o, h1, h2, h3⟩
  · exact absurd (by simpa [numsV] using h) hl
  · exact ⟨b, o, h1, h2, fun i x hx => h3 i _ (by simp [numsV, numV, hx])⟩

theorem below_drew {B : Nat} {a w : World} (h : Below B a w) : Below B a w.drew := ⟨h.os, h.tape, h.output, h.size, h.block⟩
theorem rd_block {w : World} {g : Nat} {l : List Rw} (h : Bk w g 117 (rowsV l)) : Rd w w.heap.size (some ⟨g, 0, none⟩) (rowsV l) := by
  have := h.rd (rowsV l).length 0
  rwa [List.drop_zero, List.take_length] at this

set_option maxHeartbeats 1600000 in
theorem take_rows (l : List UInt8) (A : Option Addr) (c : Nat) (w : World) (hn : l.length = 64) (hr : Rd w w.heap.size A (bytesV l)) (hc : 64 ≤ c) :
    Calls Tryz.prog 36 #[.slice A 64 c] w fun e w' => Hands2 w (takR l) e w' := by
  have hT : (takel 2 l).length = 32 := by rw [length_takel, hn]
  obtain ⟨T, hTe⟩ : ∃ T, T = rowsOf (takel 2 l) := ⟨_, rfl⟩
  have hTl : T.length = 16 := by rw [hTe]; exact length_rowsOf _
  have HY := Lib.hid (fun h => takR_yes hn (hTe ▸ h))
  have HN := Lib.hid (fun h => takR_no hn (hTe ▸ h))
  have HTl := Lib.hid hTl
  have HTe := Lib.hid hTe
  have HT := Lib.hid hT
  have HS := Lib.hid (takel_small l)
  have Hn := Lib.hid hn
  have Hr := Lib.hid hr
  clear hT hTe hTl hn hr
  have hmk := make_rows
  go_enter Tryz.func36, Tryz.ntmps36
  go_wp2_with (go_at_call 69; (with_reducible refine (take2 l A c _ Hn.out Hr.out hc).mono ?_); rintro e w1 ⟨v1, he, hown1, hb1⟩; obtain rfl := he; rw [HT.out] at hown1; obtain ⟨_, A2, c2, hv1, _, _, hr2⟩ := own_rd hown1; subst hv1; have HR2 := Lib.hid hr2; have HB1 := Lib.hid hb1; clear hown1 hb1 hr2)
  have hne : takel 2 l ≠ [] := by intro h; have := HT.out; rw [h] at this; cases this
  obtain ⟨B, o, rfl, hB, hcc⟩ := rd_nums HR2.out hne
  have Hc := Lib.hid hcc
  clear hcc hne hmk
  have hs0 := HB1.out.size
  go_loopw [7, 19] (fun _ i wr => ∃ j : Nat, j ≤ 16 ∧ i = .int .i64 (j : Int) ∧ Bk wr w1.heap.size 117 (rowsV (partR T j)) ∧ Below w1.heap.size w1 wr) (fun _ i _ => 16 - (intOf i).toNat)
  case atStart => exact ⟨0, Nat.zero_le _, rfl, by rw [partR_zero]; exact Bk.new w1 117 _, alloc_below _ _⟩
  case round =>
    obtain ⟨j, hj, rfl, hk, hbel⟩ := hrel
    by_cases hlt : j < 16
    · obtain ⟨a, ha⟩ : ∃ a, (takel 2 l)[2 * j]? = some a := ⟨_, List.getElem?_eq_getElem (by rw [HT.out]; omega)⟩
      obtain ⟨m, hm⟩ : ∃ m, (takel 2 l)[2 * j + 1]? = some m := ⟨_, List.getElem?_eq_getElem (by rw [HT.out]; omega)⟩
      have ha6 := HS.out a (List.mem_of_getElem? ha)
      have hm6 := HS.out m (List.mem_of_getElem? hm)
      have c0 := (hbel.cell hB).trans (Hc.out _ a ha)
      have c1 := (hbel.cell hB).trans (Hc.out _ m hm)
      have hTj := rowsOf_at hlt ha hm
      rw [← HTe.out] at hTj
      have hkl := length_partR HTl.out hj
      have hset := (hk.set (j * 2) (.int .u16 (a : Int))).set (j * 2 + 1) (.int .i64 (m : Int))
      rw [← rowsV_set (partR T j) j ⟨a, (m : Int)⟩ (by omega), partR_step HTl.out hTj] at hset
      have hk1 := hk.cell (j * 2)
      have hk2 := hk.cell (j * 2 + 1)
      obtain ⟨u0, hu0⟩ : ∃ u, (rowsV (partR T j))[j * 2]? = some u := ⟨_, List.getElem?_eq_getElem (by rw [length_rowsV]; omega)⟩
      obtain ⟨u1, hu1⟩ : ∃ u, (rowsV (partR T j))[j * 2 + 1]? = some u := ⟨_, List.getElem?_eq_getElem (by rw [length_rowsV]; omega)⟩
      rw [hu0] at hk1
      rw [hu1] at hk2
      have f0 := hk.frozen (j * 2)
      have f1 := hk.frozen (j * 2 + 1)
      have hs := Nat.lt_of_lt_of_le hB hbel.size
      have hs1 := hk.lt
      have HK := Lib.hid hset
      have HB2 := Lib.hid ((hbel.setCell (p := ⟨w1.heap.size, j * 2, none⟩) (Nat.le_refl _) (.int .u16 (a : Int))).setCell (p := ⟨w1.heap.size, j * 2 + 1, none⟩) (Nat.le_refl _) (.int .i64 (m : Int)))
      have e1 : IntKind.u16.wrap (a : Int) = (a : Int) := by rw [IntKind.wrap_u16]; omega
      have e2 : IntKind.i64.wrap (m : Int) = (m : Int) := by rw [IntKind.wrap_i64]; omega
      have e3 : IntKind.i64.wrap (2 * (j : Int)) = ((2 * j : Nat) : Int) := by rw [IntKind.wrap_i64]; omega
      have e4 : IntKind.i64.wrap (((2 * j : Nat) : Int) + 1) = ((2 * j + 1 : Nat) : Int) := by rw [IntKind.wrap_i64]; omega
      have e5 : (0 : Int) ≤ (j : Int) := Int.natCast_nonneg _
      have e6 : (j : Int) < 16 := by omega
      have hne2 : B ≠ w1.heap.size := by omega
      clear ha hm hk hset hu0 hu1 hTj hbel
      go_wp2
      go_region
      have HK3 : Hid (Bk (((wr.setCell ⟨w1.heap.size, j * 2, none⟩ (.int .u16 (a : Int))).setCell ⟨w1.heap.size, j * 2 + 1, none⟩ (.int .i64 (m : Int))).drew) w1.heap.size 117 (rowsV (partR T (j + 1)))) := HK
      have HB3 := Lib.hid (below_drew HB2.out)
      go_wp2
      go_roundw
      case rel => exact ⟨j + 1, by omega, by go_num, HK3.out, HB3.out⟩
      case measure => simp [intOf]; omega
    · obtain rfl : j = 16 := by omega
      rw [partR_all HTl.out] at hk
      have HK := Lib.hid hk
      have HB := Lib.hid hbel
      have HW := Lib.hid (HB1.out.trans (hbel.mono hs0))
      clear hk hbel
      by_cases hR : Right T
      · have hb := rightB_yes hR
        have HP := Lib.hid (HY.out hR)
        clear hR HN HY
        go_wp2_with (go_at_call 48; (with_reducible refine (right_all T _ 16 16 _ HTl.out (rd_block HK.out)).mono ?_); rintro e w4 ⟨he, hb4⟩; obtain rfl := he; rw [hb]; have HB4 := Lib.hid hb4; clear hb4)
        go_ret2
        refine hands2_rows (m := T) (by rw [HP.out, HTe.out]) HTl.out hs0 ?_ (HW.out.trans (HB4.out.mono HW.out.size))
        exact HK.out.below HB4.out HK.out.lt
      · have hb := rightB_no hR
        have HP := Lib.hid (HN.out hR)
        clear hR HN HY
        go_wp2_with (go_at_call 48; (with_reducible refine (right_all T _ 16 16 _ HTl.out (rd_block HK.out)).mono ?_); rintro e w4 ⟨he, hb4⟩; obtain rfl := he; rw [hb]; have HB4 := Lib.hid hb4; clear hb4)
        go_ret2
        exact hands2_nil HP.out (HW.out.trans (HB4.out.mono HW.out.size))
/-- Take. -/
theorem take_any (l : List UInt8) (A : Option Addr) (n c : Nat) (w : World) (hn : l.length = n) (hr : Rd w w.heap.size A (bytesV l)) (hc : n ≤ c) :
    Calls Tryz.prog 36 #[.slice A n c] w fun e w' => Hands2 w (takR l) e w' := by
  by_cases h : n = 64
  · subst h
    exact take_rows l A c w hn hr hc
  · exact take_len A n c w h l hn

end Go.Proofs.YtaflpigpeckhoaaGreat.Intern

/-
  Rows of labels on paper: what was laid is taken, and what is taken is laid so.
-/
namespace Go.Proofs.YtaflpigpeckhoaaGreat.Intern
open Go.RowKit

theorem takel_cons (l : List UInt8) (m : Nat) (h : l.length = (m + 1) * 2) : takel 2 l = le (l.take 2) :: takel 2 (l.drop 2) := by
  have e1 : l.length / 2 = m + 1 := by omega
  have e2 : (l.drop 2).length / 2 = m := by rw [List.length_drop]; omega
  unfold takel
  rw [e1, e2, List.range_succ_eq_map, List.map_cons, List.map_map]
  congr 1
  apply List.map_congr_left
  intro k _
  show le ((l.drop ((k + 1) * 2)).take 2) = _
  rw [List.drop_drop]
  congr 3
  omega
theorem layl_takel (m : Nat) : ∀ l : List UInt8, l.length = m * 2 → layl 2 (takel 2 l) = l := by
  induction m with
  | zero =>
    intro l h
    obtain rfl : l = [] := List.eq_nil_of_length_eq_zero (by omega)
    rfl
  | succ m ih =>
    intro l h
    rw [takel_cons l m h]
    show digs (le (l.take 2)) 2 ++ layl 2 (takel 2 (l.drop 2)) = l
    have h2 : (l.take 2).length = 2 := by rw [List.length_take]; omega
    have := digs_le (l.take 2)
    rw [h2] at this
    rw [this, ih _ (by rw [List.length_drop]; omega), List.take_append_drop]

theorem words_at {l : List Rw} {i : Nat} {r : Rw} (h : l[i]? = some r) : (words l)[2 * i]? = some r.lab ∧ (words l)[2 * i + 1]? = some r.refs.toNat := by
  induction l generalizing i with
  | nil => simp at h
  | cons s l ih =>
    cases i with
    | zero =>
      obtain rfl : s = r := by simpa using h
      exact ⟨rfl, rfl⟩
    | succ i =>
      obtain ⟨h1, h2⟩ := ih (i := i) (by simpa using h)
      have e1 : 2 * (i + 1) = 2 * i + 1 + 1 := by omega
      rw [e1]
      exact ⟨h1, h2⟩
theorem rowsOf_words {l : List Rw} (h : Right l) : rowsOf (words l) = l := by
  apply List.ext_getElem?
  intro i
  by_cases hi : i < 16
  · obtain ⟨r, hr⟩ : ∃ r, l[i]? = some r := ⟨_, List.getElem?_eq_getElem (by rw [h.len]; exact hi)⟩
    obtain ⟨h1, h2⟩ := words_at hr
    rw [rowsOf_at hi h1 h2, hr]
    have := fits_lo (h.fits i r hr)
    congr 1
    cases r
    simp only at this ⊢
    congr 1
    omega
  · rw [List.getElem?_eq_none (by rw [length_rowsOf]; omega), List.getElem?_eq_none (by rw [h.len]; omega)]
theorem words_rowsOf {ws : List Nat} (h : ws.length = 32) : words (rowsOf ws) = ws := by
  apply List.ext_getElem?
  intro j
  by_cases hj : j < 32
  · have h0 : ∃ a, ws[2 * (j / 2)]? = some a := ⟨_, List.getElem?_eq_getElem (by omega)⟩
    have h1 : ∃ a, ws[2 * (j / 2) + 1]? = some a := ⟨_, List.getElem?_eq_getElem (by omega)⟩
    obtain ⟨a, h0⟩ := h0
    obtain ⟨m, h1⟩ := h1
    have hr := rowsOf_at (j := j / 2) (by omega) h0 h1
    obtain ⟨k0, k1⟩ := words_at hr
    rcases Nat.mod_two_eq_zero_or_one j with e | e
    · have e2 : 2 * (j / 2) = j := by omega
      rw [e2] at k0 h0
      rw [k0, h0]
    · have e2 : 2 * (j / 2) + 1 = j := by omega
      rw [e2] at k1 h1
      rw [k1, h1]
      simp
  · rw [List.getElem?_eq_none (by rw [length_words, length_rowsOf]; omega), List.getElem?_eq_none (by omega)]
/-- What was laid is taken. -/
theorem take_lay {l : List Rw} (h : Right l) (ho : Oks l) : takR (bytesOf l) = ⟨l, 0, 0⟩ := by
  have hb : (bytesOf l).length = 64 := by rw [length_bytesOf, h.len]
  have e : rowsOf (takel 2 (bytesOf l)) = l := by
    unfold bytesOf
    rw [takel_layl 2 (by omega) _ fun x hx => by
      have := words_small h ho x hx
      simp only [fitB, decide_eq_true_eq]
      omega]
    exact rowsOf_words h
  rw [takR_yes hb (by rw [e]; exact h), e]
/-- What is taken is laid so. -/
theorem lay_take {bs : List UInt8} (h : bs.length = 64) : bytesOf (rowsOf (takel 2 bs)) = bs := by
  unfold bytesOf
  rw [words_rowsOf (by rw [length_takel, h])]
  exact layl_takel 32 bs h
theorem oks_take (bs : List UInt8) : Oks (rowsOf (takel 2 bs)) := by
  intro r hr
  obtain ⟨i, hi⟩ := List.mem_iff_getElem?.1 hr
  have hl : i < 16 := by
    have := (List.getElem?_eq_some_iff.1 hi).1
    rwa [length_rowsOf] at this
  have hsm : ∀ k, (takel 2 bs).getD k 0 < 65536 := fun k => by
    rw [List.getD_eq_getElem?_getD]
    cases hk : (takel 2 bs)[k]? with
    | none => simp
    | some x => simpa using takel_small bs x (List.mem_of_getElem? hk)
  simp only [rowsOf, List.getElem?_map, List.getElem?_range hl, Option.map_some, Option.some.injEq] at hi
  subst hi
  refine ⟨hsm _, ?_, ?_⟩
  · show -9223372036854775808 ≤ ((_ : Nat) : Int); omega
  · have := hsm (2 * i + 1)
    show ((_ : Nat) : Int) ≤ 9223372036854775807; omega
theorem bytes_inj {l m : List Rw} (hl : Right l) (ol : Oks l) (hm : Right m) (om : Oks m) (h : bytesOf l = bytesOf m) : l = m := by
  have h1 := take_lay hl ol
  have h2 := take_lay hm om
  rw [h, h2] at h1
  injection h1 with h1
  exact h1.symm
theorem takR_some {bs : List UInt8} (h : (takR bs).err = 0) : bs.length = 64 ∧ Right (takR bs).rows ∧ Oks (takR bs).rows ∧ bytesOf (takR bs).rows = bs := by
  by_cases hl : bs.length = 64
  · by_cases hR : Right (rowsOf (takel 2 bs))
    · rw [takR_yes hl hR]
      exact ⟨hl, hR, oks_take bs, lay_take hl⟩
    · rw [takR_no hl hR] at h
      cases h
  · rw [takR_len hl] at h
    cases h
end Go.Proofs.YtaflpigpeckhoaaGreat.Intern
