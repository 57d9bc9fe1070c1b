/-
  InternCounts: whatever is needed and no more needed, a label that is needed so often is in a row, with that many refs, and no other one is; and rows are refused only when all are taken.
-/
import Derived.Test.YtdecllllcoflbaaK
import Derived.Test.YtdecllllcoflbaaP
import Derived.Test.YtdecllllcoflbaaOA
import Derived.Deep.AppendLies
import Derived.Carry
namespace Go.Proofs.Ytdecllllcoflbaa
open Go.ChangeShapes Go.WideShapes Go.ChangeAt Go.RowKit Intern

def Need (w : World) (b : Nat) (at_ : Int → Int) (there : Int → Bool) (m : Nat) : Prop := MapIs (plainElem (H := Unit) Try.prog 3) (fun x => .lit (.int .i64 x)) 0 w b at_ there m
/-- The rows and the map, as they lie. -/
structure St (w wr : World) (b : Nat) (T : List Rw) (at_ : Int → Int) (there : Int → Bool) (m g : Nat) : Prop where
  rd : Rd wr wr.heap.size (some ⟨g, 0, none⟩) (rowsV T)
  len : T.length = 16
  map : Need wr b at_ there m
  bel : Below w.heap.size w wr
  bw : w.heap.size ≤ b
section
variable {w wr w' : World} {b : Nat} {T : List Rw} {at_ : Int → Int} {there : Int → Bool} {m g : Nat}
theorem St.below (h : St w wr b T at_ there m g) (hb : Below wr.heap.size wr w') : St w w' b T at_ there m g :=
  ⟨(h.rd.below hb).more hb.size, h.len, h.map.keep (hb.block b h.map.lt), h.bel.trans (hb.mono h.bel.size), h.bw⟩
/-- Rows that a call has made. -/
theorem St.rows {T' : List Rw} {g' : Nat} (h : St w wr b T at_ there m g) (hb : Below wr.heap.size wr w') (hr : Rd w' w'.heap.size (some ⟨g', 0, none⟩) (rowsV T')) (hl : T'.length = 16) : St w w' b T' at_ there m g' :=
  ⟨hr, hl, (h.below hb).map, (h.below hb).bel, h.bw⟩
theorem St.look (h : St w wr b T at_ there m g) {a : Nat} (ha : a < 65536) {x : Int} (hx : at_ (a : Int) = x) : (Instr.lookup 47 (.map (some b)) (.int .u16 (a : Int)) false).run Try.prog wr = .ok (.int .i64 x) wr := by
  rw [← hx]
  exact (h.map.look intE Try.underlying47 ⟨by omega, by omega⟩).1
theorem St.lenr (h : St w wr b T at_ there m g) {n : Nat} (hn : m = n) : (Builtin.len_ #[47] 3 #[.map (some b)]).run Try.prog wr = .ok (.int .i64 (n : Int)) wr := by
  subst hn
  exact h.map.len Try.underlying47 3
theorem St.far (h : St w wr b T at_ there m g) : g ≠ b := by
  obtain ⟨es, clock, hm⟩ := h.map.isMap
  obtain ⟨r, hr⟩ : ∃ r, T[0]? = some r := ⟨_, List.getElem?_eq_getElem (by rw [h.len]; omega)⟩
  obtain ⟨b', o', hA, hb, hc, _⟩ := rd_row h.rd hr
  cases hA
  intro e
  subst e
  simp [World.cell?, hm] at hc
theorem St.lt (h : St w wr b T at_ there m g) : g < wr.heap.size := by
  rcases h.rd with e | ⟨b', o, e, h1, _⟩
  · have := length_rowsV T
    rw [e, h.len] at this
    simp at this
  · cases e; exact h1
theorem St.row (h : St w wr b T at_ there m g) {q : Nat} {r : Rw} (hr : T[q]? = some r) : wr.cell? ⟨g, q * 2, none⟩ = some (.int .u16 (r.lab : Int)) ∧ wr.cell? ⟨g, q * 2 + 1, none⟩ = some (.int .i64 r.refs) := by
  obtain ⟨b', o', hA, _, h1, h2⟩ := rd_row h.rd hr
  cases hA
  rw [Nat.zero_add] at h1 h2
  exact ⟨h1, h2⟩
/-- The map is another one. -/
theorem St.put {at2 : Int → Int} {there2 : Int → Bool} {m2 : Nat} (h : St w wr b T at_ there m g) (hm : Need w' b at2 there2 m2) (hg : wr.grownBy w' (some b)) : St w w' b T at2 there2 m2 g := by
  have hf := h.far
  refine ⟨?_, h.len, hm, h.bel.grown hg h.bel.size (fun k hk => by cases hk; exact h.bw), h.bw⟩
  rcases h.rd with e | ⟨b', o, e, h1, h2⟩
  · exact .inl e
  · cases e
    exact .inr ⟨g, 0, rfl, Nat.lt_of_lt_of_le h1 hg.size, fun j u hu => (hg.cell_far _ h1 (by intro e; injection e with e; exact hf e)).trans (h2 j u hu)⟩
end

theorem take_count {α : Type} {p : α → Bool} {l : List α} {q : Nat} {r : α} (h : l[q]? = some r) : (l.take (q + 1)).countP p = (l.take q).countP p + (if p r then 1 else 0) := by
  obtain ⟨hq, rfl⟩ := List.getElem?_eq_some_iff.1 h
  rw [List.take_succ_eq_append_getElem hq, List.countP_append]
  simp [List.countP_cons]
theorem at_del {at_ : Int → Int} (a : Int) (s : Int) : (if s = a then (0 : Int) else if s = a then 0 else at_ s) = if s = a then 0 else at_ s := by
  by_cases h : s = a
  · rw [if_pos h, if_pos h]
  · rw [if_neg h, if_neg h]
theorem there_del {there : Int → Bool} (a : Int) (s : Int) : (s != a && (s == a || there s)) = (s != a && there s) := by
  by_cases h : s = a
  · have h1 : (s != a) = false := by rw [bne_eq_false_iff_eq]; exact h
    rw [h1, Bool.false_and, Bool.false_and]
  · have h1 : (s == a) = false := beq_false_of_ne h
    rw [h1, Bool.false_or]
/-- Labels in rows are words. -/
def Labs (T : List Rw) : Prop := ∀ (q : Nat) r, T[q]? = some r → r.lab < 65536
theorem Labs.set {T : List Rw} (h : Labs T) {i : Nat} {r : Rw} (hr : r.lab < 65536) : Labs (T.set i r) := fun q s hs => by
  rcases get_set hs with ⟨_, rfl⟩ | ⟨_, hs⟩
  · exact hr
  · exact h q s hs
theorem labs_frees : Labs frees := fun q r h => by
  simp only [frees, List.getElem?_replicate] at h
  split at h
  · injection h with h; subst h; decide
  · cases h

set_option maxHeartbeats 3200000 in
set_option maxRecDepth 100000 in
theorem counts_walk (l : List Ac) (A : Option Addr) (n c : Nat) (w : World) (hn : l.length = n) (hr : Acts w w.heap.size A l) (hm : n ≤ 9223372036854775807) :
    Calls Try.prog 7 #[.slice A n c] w fun e w' => e = .returned (.bool true) ∧ Below w.heap.size w w' := by
  have Hn := Lib.hid hn
  have Hr := Lib.hid hr
  clear hn hr
  have hmm := @run_makeMap Try.prog
  go_enter Try.func7, Try.ntmps7
  go_wp2_with (first
    | (go_at_call 9; (with_reducible refine (shown_any _).mono ?_); rintro e w0 ⟨he, hb0⟩; obtain rfl := he; have HB0 := Lib.hid hb0; clear hb0)
    | (go_at_call 24; (with_reducible refine (free_any _).mono ?_); rintro e w1 ⟨he, hw1⟩; obtain rfl := he; have hb1 : Below w0.heap.size w0 w1 := (by subst hw1; exact alloc_below _ _); have HB1 := Lib.hid (HB0.out.trans (hb1.mono HB0.out.size)); have HF1 := Lib.hid (by subst hw1; exact rd_block (Bk.new w0 37 _) : Rd w1 w1.heap.size (some ⟨w0.heap.size, 0, none⟩) (rowsV frees)); clear hw1 hb1))
  have hst : St w (w1.alloc (.map #[] 0)) w1.heap.size frees (fun _ => 0) (fun _ => false) 0 w0.heap.size :=
    ⟨(HF1.out.below (alloc_below _ _)).more (by simp), rfl, MapIs.made w1 _ _ 0, HB1.out.alloc HB1.out.size _, HB1.out.size⟩
  have HST := Lib.hid hst
  clear hst HF1 HB1 HB0 hmm
  generalize w1.alloc (.map #[] 0) = ws at *
  generalize w1.heap.size = b at *
  generalize w0.heap.size = g0 at *
  go_loopw [4, 23] (fun v i wr => ∃ (j : Nat) (T : List Rw) (at_ : Int → Int) (there : Int → Bool) (m g c1 : Nat), j ≤ n ∧ j ≤ 300 ∧ i = .int .i64 (j : Int) ∧ v = .slice (some ⟨g, 0, none⟩) 16 c1 ∧ Inv T at_ there m j ∧ Labs T ∧ St w wr b T at_ there m g) (fun _ i _ => n - (intOf i).toNat)
  case atStart => exact ⟨0, _, _, _, _, _, 16, Nat.zero_le _, Nat.zero_le _, rfl, rfl, inv_start, labs_frees, HST.out⟩
  case round =>
    obtain ⟨j, T, at_, there, m, g, c1, hj, hj3, rfl, rfl, hinv, hlabs, hS⟩ := hrel
    by_cases hlt : j < n
    · obtain ⟨⟨gone, a⟩, hact⟩ : ∃ x, l[j]? = some x := ⟨_, List.getElem?_eq_getElem (by rw [Hn.out]; exact hlt)⟩
      obtain ⟨B, o, rfl, hB, ha6, c0, c1'⟩ := (Hr.out.below hS.bel).at hact
      have hs := Nat.lt_of_lt_of_le hB hS.bel.size
      have HI := Lib.hid hinv
      have HL := Lib.hid hlabs
      have HS := Lib.hid hS
      simp only at ha6 c0 c1'
      have S0 := Lib.hid (hS.below (alloc_below wr (.cells #[.bool gone, .int .u16 (a : Int)] 49)))
      have V0 := Lib.hid (Bk.new wr 49 [.bool gone, .int .u16 (a : Int)])
      have hbl := hS.map.lt
      clear hact hinv hlabs hS
      by_cases h300 : 300 ≤ j
      · obtain rfl : j = 300 := by omega
        have HB := Lib.hid S0.out.bel
        go_wp2
        go_ret
        exact ⟨rfl, HB.out⟩
      · have hi : ¬ ((300 : Int) ≤ (j : Int)) := by omega
        have HF := Lib.hid (fndP_yes HI.out.right a)
        cases hfa : fnd T a with
        | none =>
          have HA := Lib.hid hfa
          have hat := (HI.out.not_ a hfa).1
          by_cases hgo : gone = true
          · subst hgo
            go_wp2_with (go_at_call 11; (with_reducible refine (find_any T _ 16 _ a _ S0.out.len S0.out.rd (by decide)).mono ?_); rintro e w2 ⟨he, hb2⟩; obtain rfl := he; rw [HF.out, HA.out]; have S2 := Lib.hid (S0.out.below hb2); have V2 := Lib.hid (V0.out.below hb2 V0.out.lt); clear hb2; have hlk2 := S2.out.look ha6 hat; have v0 := V2.out.cell 0; have v1 := V2.out.cell 1; have hv2 := V2.out.lt; simp only [fndV, Option.getD_none, Option.isSome_none])
            have SX := S2
            go_roundw
            case rel => exact ⟨j + 1, T, at_, there, m, g, c1, by omega, by omega, by go_num, rfl, HI.out.up, HL.out, SX.out⟩
            case measure => simp [intOf]; omega
          · obtain rfl : gone = false := by simpa using hgo
            cases hfr : freeAt T with
            | none =>
              obtain ⟨hret, hm16⟩ := HI.out.full hfa hfr
              have HRet := Lib.hid hret
              have HM16 := Lib.hid hm16
              clear hret hm16 hfr
              go_wp2_with (first
                | (go_at_call 11; (with_reducible refine (find_any T _ 16 _ a _ S0.out.len S0.out.rd (by decide)).mono ?_); rintro e w2 ⟨he, hb2⟩; obtain rfl := he; rw [HF.out, HA.out]; have S2 := Lib.hid (S0.out.below hb2); have V2 := Lib.hid (V0.out.below hb2 V0.out.lt); clear hb2; have hlk2 := S2.out.look ha6 hat; have v0 := V2.out.cell 0; have v1 := V2.out.cell 1; have hv2 := V2.out.lt; simp only [fndV, Option.getD_none, Option.isSome_none])
                | (go_at_call 13; (with_reducible refine (ret_any T _ 16 _ a _ S2.out.len S2.out.rd).mono ?_); rintro e w3 hh; obtain ⟨A3, c3, he, hb3⟩ := hh.nil HRet.out; obtain rfl := he; have SX := Lib.hid (S2.out.below hb3); have hlen := SX.out.lenr HM16.out; clear hb3 hh))
              go_roundw
              case rel => exact ⟨j + 1, T, at_, there, m, g, c1, by omega, by omega, by go_num, rfl, HI.out.up, HL.out, SX.out⟩
              case measure => simp [intOf]; omega
            | some i =>
              obtain ⟨hret, _, hinv2⟩ := HI.out.new hfa hfr
              have HRet := Lib.hid hret
              have HI2 := Lib.hid hinv2
              have HLB := Lib.hid (HL.out.set (i := i) (r := ⟨a, 1⟩) ha6)
              have HMlt : Hid (m < maxLen) := Lib.hid (by have := HI.out.cnt; have h2 : T.countP busy ≤ T.length := List.countP_le_length; rw [HI.out.right.len] at h2; unfold maxLen; omega)
              have HA6 : Hid (U16 (a : Int)) := Lib.hid ⟨by omega, by omega⟩
              have HBL := Lib.hid hbl
              have HRB := Lib.hid (rightB_yes HI2.out.right)
              obtain ⟨at2, hat2⟩ : ∃ f, f = (fun k => if k = (a : Int) then 1 else at_ k) := ⟨_, rfl⟩
              obtain ⟨there2, hth2⟩ : ∃ f, f = (fun k => k == (a : Int) || there k) := ⟨_, rfl⟩
              obtain ⟨m2, hm2⟩ : ∃ f, f = (if there (a : Int) then m else m + 1) := ⟨_, rfl⟩
              rw [← hat2, ← hth2, ← hm2] at HI2
              have E2 : Hid (at2 = (fun k => if k = (a : Int) then 1 else at_ k) ∧ there2 = (fun k => k == (a : Int) || there k) ∧ m2 = (if there (a : Int) then m else m + 1)) := Lib.hid ⟨hat2, hth2, hm2⟩
              clear hret hinv2 hat2 hth2 hm2
              have hw1 : IntKind.i64.wrap (0 + 1) = 1 := by rfl
              clear hfr
              go_wp2_with (first
                | (go_at_call 11; (with_reducible refine (find_any T _ 16 _ a _ S0.out.len S0.out.rd (by decide)).mono ?_); rintro e w2 ⟨he, hb2⟩; obtain rfl := he; rw [HF.out, HA.out]; have S2 := Lib.hid (S0.out.below hb2); have V2 := Lib.hid (V0.out.below hb2 V0.out.lt); clear hb2; have hlk2 := S2.out.look ha6 hat; have v0 := V2.out.cell 0; have v1 := V2.out.cell 1; have hv2 := V2.out.lt; simp only [fndV, Option.getD_none, Option.isSome_none])
                | (go_at_call 13; (with_reducible refine (ret_any T _ 16 _ a _ S2.out.len S2.out.rd).mono ?_); rintro e w3 hh; obtain ⟨g3, c3, he, _, hr3, hb3⟩ := hh.got HRet.out (by rw [List.length_set]; exact S2.out.len); obtain rfl := he; have S3 := Lib.hid (S2.out.rows hb3 hr3 (by rw [List.length_set]; exact S2.out.len)); have V3 := Lib.hid (V2.out.below hb3 V2.out.lt); clear hb3 hh hr3; have hlk3 := S3.out.look ha6 hat; have v30 := V3.out.cell 0; have v31 := V3.out.cell 1; have hv3 := V3.out.lt)
                | (at_mapUpdate; refine wpList_mput (β := Int) (enc := Value.int .i64) rfl (.tmp 92) (.tmp 94) (.tmp 96) rfl intE Try.underlying47 rfl S3.out.map HMlt.out HA6.out rfl (x := 1) (by unfold I64; omega) (by first | rfl | simp) ?_; intro w4 hM4 hG4; have S4 := Lib.hid (S3.out.put hM4 hG4); have V4 := Lib.hid (V3.out.grown hG4 (by intro e; injection e with e; have := HBL.out; omega)); clear hM4 hG4; have hlk4 := S4.out.look ha6 (x := 1) (by simp); have v40 := V4.out.cell 0; have v41 := V4.out.cell 1; have hv4 := V4.out.lt)
                | (go_at_call 17; (with_reducible refine (right_all (T.set i ⟨a, 1⟩) _ 16 _ _ S4.out.len S4.out.rd).mono ?_); rintro e w7 ⟨he, hb7⟩; obtain rfl := he; rw [HRB.out]; have S7 := Lib.hid (S4.out.below hb7); clear hb7))
              have S8 : Hid (St w w7 b (T.set i ⟨a, 1⟩) at2 there2 m2 g3) := Lib.hid (by rw [E2.out.1, E2.out.2.1, E2.out.2.2]; exact S7.out)
              clear HF HA hat E2 hlk2 hlk3 hlk4 S0 V0 S2 V2 S3 V3 S4 V4 S7 HS HI HRet v0 v1 v30 v31 v40 v41
              go_loopw [15, 110] (fun v k wx => ∃ q : Nat, q ≤ 16 ∧ k = .int .i64 (q : Int) ∧ v = .int .i64 (((((T.set i ⟨a, 1⟩).take q).countP busy : Nat)) : Int) ∧ St w wx b (T.set i ⟨a, 1⟩) at2 there2 m2 g3) (fun _ k _ => 16 - (intOf k).toNat)
              case atStart => exact ⟨0, Nat.zero_le _, rfl, rfl, S8.out⟩
              case round =>
                obtain ⟨q, hq, rfl, rfl, hS⟩ := hrel
                have HS := Lib.hid hS
                have hbel := hS.bel.size
                clear hS
                by_cases hlt2 : q < 16
                · obtain ⟨⟨lb, y⟩, hrq⟩ : ∃ r, (T.set i ⟨a, 1⟩)[q]? = some r := ⟨_, List.getElem?_eq_getElem (by rw [HS.out.len]; exact hlt2)⟩
                  obtain ⟨d0, d1⟩ := HS.out.row hrq
                  have hlb := HLB.out q ⟨lb, y⟩ hrq
                  have hlo := fits_lo (HI2.out.right.fits q _ hrq)
                  have hgs := HS.out.lt
                  have SA := Lib.hid (HS.out.below (alloc_below _ (.cells #[.int .u16 (lb : Int), .int .i64 y] 37)))
                  have HC := take_count (p := busy) hrq
                  simp only at hlb hlo d0 d1
                  have hcl : ((T.set i ⟨a, 1⟩).take q).countP busy ≤ 16 := Nat.le_trans List.countP_le_length (by rw [List.length_take]; omega)
                  by_cases hy : 0 < y
                  · have g1 : decide (0 < y) = true := decide_eq_true hy
                    have hat3 := (HI2.out.have_ lb q ⟨lb, y⟩ (HI2.out.right.fnd_at hrq (by show y ≠ 0; omega)) hrq).1
                    have hlk := SA.out.look hlb hat3
                    have hne : (y != y) = false := by simp
                    have hb1 : busy ⟨lb, y⟩ = true := by simp [busy, free]; omega
                    rw [hb1, if_pos rfl] at HC
                    generalize ((T.set i ⟨a, 1⟩).take q).countP busy = kk at HC hcl ⊢
                    have HC := Lib.hid HC
                    clear hrq hat3 hb1
                    go_wp2
                    go_roundw
                    case rel => exact ⟨q + 1, by omega, by go_num, by rw [HC.out]; go_num, SA.out⟩
                    case measure => simp [intOf]; omega
                  · have g1 : decide (0 < y) = false := decide_eq_false hy
                    have hb1 : busy ⟨lb, y⟩ = false := by simp [busy, free]; omega
                    rw [hb1, if_neg (by decide)] at HC
                    generalize ((T.set i ⟨a, 1⟩).take q).countP busy = kk at HC hcl ⊢
                    have HC := Lib.hid HC
                    clear hrq hb1
                    go_wp2
                    go_roundw
                    case rel => exact ⟨q + 1, by omega, by go_num, by rw [HC.out]; rfl, SA.out⟩
                    case measure => simp [intOf]; omega
                · obtain rfl : q = 16 := by omega
                  have ht : (T.set i ⟨a, 1⟩).take 16 = T.set i ⟨a, 1⟩ := List.take_of_length_le (by rw [HS.out.len]; exact Nat.le_refl _)
                  have hml := HS.out.lenr HI2.out.cnt
                  rw [ht]
                  generalize (T.set i ⟨a, 1⟩).countP busy = mm at hml ⊢
                  have hne : ((mm : Int) != (mm : Int)) = false := by simp
                  go_wp2
                  go_roundw
                  case rel => exact ⟨j + 1, T.set i ⟨a, 1⟩, at2, there2, m2, g3, c3, by omega, by omega, by go_num, rfl, HI2.out, HLB.out, HS.out⟩
                  case measure => simp [intOf]; omega
        | some i =>
          obtain ⟨r, hri, hx0, hlba, _⟩ := fnd_some hfa
          have HA := Lib.hid hfa
          have hat := (HI.out.have_ a i r hfa hri).1
          have hlo := fits_lo (HI.out.right.fits i r hri)
          have htop := HI.out.top i r hri
          obtain ⟨x, hx⟩ : ∃ x, r.refs = x := ⟨_, rfl⟩
          rw [hx] at hat hlo htop hx0
          have hpos : 0 < x := by omega
          have gp : decide (0 < x) = true := decide_eq_true hpos
          by_cases hgo : gone = true
          · subst hgo
            by_cases h1 : x = 1
            · subst h1
              obtain ⟨hret, _, hth, hinv2⟩ := HI.out.gone hfa hri hx
              have HRet := Lib.hid hret
              have HI2 := Lib.hid hinv2
              have HLB := Lib.hid (HL.out.set (i := i) (r := .z) (by decide))
              have HMlt : Hid (m < maxLen) := Lib.hid (by have := HI.out.cnt; have h2 : T.countP busy ≤ T.length := List.countP_le_length; rw [HI.out.right.len] at h2; unfold maxLen; omega)
              have HA6 : Hid (U16 (a : Int)) := Lib.hid ⟨by omega, by omega⟩
              have HBL := Lib.hid hbl
              have HRB := Lib.hid (rightB_yes HI2.out.right)
              obtain ⟨at2, hat2⟩ : ∃ f, f = (fun k => if k = (a : Int) then 0 else at_ k) := ⟨_, rfl⟩
              obtain ⟨there2, hth2⟩ : ∃ f, f = (fun k => k != (a : Int) && there k) := ⟨_, rfl⟩
              obtain ⟨m2, hm2⟩ : ∃ f, f = (m - 1) := ⟨_, rfl⟩
              rw [← hat2, ← hth2, ← hm2] at HI2
              have E2 : Hid (at2 = (fun k => if k = (a : Int) then 0 else at_ k) ∧ there2 = (fun k => k != (a : Int) && there k) ∧ m2 = (m - 1)) := Lib.hid ⟨hat2, hth2, hm2⟩
              clear hret hinv2 hat2 hth2 hm2
              have hw1 : IntKind.i64.wrap (1 - 1) = 0 := by rfl
              have HTH := Lib.hid hth
              clear hth hri
              go_wp2_with (first
                | (go_at_call 11; (with_reducible refine (find_any T _ 16 _ a _ S0.out.len S0.out.rd (by decide)).mono ?_); rintro e w2 ⟨he, hb2⟩; obtain rfl := he; rw [HF.out, HA.out]; have S2 := Lib.hid (S0.out.below hb2); have V2 := Lib.hid (V0.out.below hb2 V0.out.lt); clear hb2; have hlk2 := S2.out.look ha6 hat; have v0 := V2.out.cell 0; have v1 := V2.out.cell 1; have hv2 := V2.out.lt; simp only [fndV, Option.getD_some, Option.isSome_some])
                | (go_at_call 15; (with_reducible refine (rel_any T _ 16 _ _ _ S2.out.len S2.out.rd).mono ?_); rintro e w3 hh; obtain ⟨g3, c3, he, _, hr3, hb3⟩ := hh.got HRet.out (by rw [List.length_set]; exact S2.out.len); obtain rfl := he; have S3 := Lib.hid (S2.out.rows hb3 hr3 (by rw [List.length_set]; exact S2.out.len)); have V3 := Lib.hid (V2.out.below hb3 V2.out.lt); clear hb3 hh hr3; have hlk3 := S3.out.look ha6 hat; have v30 := V3.out.cell 0; have v31 := V3.out.cell 1; have hv3 := V3.out.lt)
                | (at_mapUpdate; refine wpList_mput (β := Int) (enc := Value.int .i64) rfl (.tmp 57) (.tmp 59) (.tmp 61) rfl intE Try.underlying47 rfl S3.out.map HMlt.out HA6.out rfl (x := 0) (by unfold I64; omega) (by first | rfl | simp) ?_; intro w4 hM4 hG4; have S4 := Lib.hid (S3.out.put hM4 hG4); have V4 := Lib.hid (V3.out.grown hG4 (by intro e; injection e with e; have := HBL.out; omega)); clear hM4 hG4; have hlk4 := S4.out.look ha6 (x := 0) (by simp); have v40 := V4.out.cell 0; have v41 := V4.out.cell 1; have hv4 := V4.out.lt)
                | (at_delete; refine wpList_mdel (R := plainElem (H := Unit) Try.prog 3) (dat := fun x => .lit (.int .i64 x)) (z := (0 : Int)) rfl (.tmp 102) (.tmp 104) rfl Try.underlying47 rfl S4.out.map (s := (a : Int)) HA6.out rfl ?_; intro w5 hM5 hG5; have S5 := Lib.hid (S4.out.put hM5 hG5); clear hM5 hG5)
                | (go_at_call 17; (with_reducible refine (right_all (T.set i .z) _ 16 _ _ S5.out.len S5.out.rd).mono ?_); rintro e w7 ⟨he, hb7⟩; obtain rfl := he; rw [HRB.out]; have S7 := Lib.hid (S5.out.below hb7); clear hb7))
              have S8 : Hid (St w w7 b (T.set i .z) at2 there2 m2 g3) := Lib.hid (by rw [E2.out.1, E2.out.2.1, E2.out.2.2]; exact ⟨S7.out.rd, S7.out.len, S7.out.map.as (at_del (a : Int)) (there_del (a : Int)) (show (if ((a : Int) == (a : Int) || there (a : Int)) = true then (if there (a : Int) = true then m else m + 1) - 1 else (if there (a : Int) = true then m else m + 1)) = m - 1 by simp [HTH.out]), S7.out.bel, S7.out.bw⟩)
              clear HF HA hat E2 S5 HTH hlk2 hlk3 hlk4 S0 V0 S2 V2 S3 V3 S4 V4 S7 HS HI HRet v0 v1 v30 v31 v40 v41
              go_loopw [15, 110] (fun v k wx => ∃ q : Nat, q ≤ 16 ∧ k = .int .i64 (q : Int) ∧ v = .int .i64 (((((T.set i .z).take q).countP busy : Nat)) : Int) ∧ St w wx b (T.set i .z) at2 there2 m2 g3) (fun _ k _ => 16 - (intOf k).toNat)
              case atStart => exact ⟨0, Nat.zero_le _, rfl, rfl, S8.out⟩
              case round =>
                obtain ⟨q, hq, rfl, rfl, hS⟩ := hrel
                have HS := Lib.hid hS
                have hbel := hS.bel.size
                clear hS
                by_cases hlt2 : q < 16
                · obtain ⟨⟨lb, y⟩, hrq⟩ : ∃ r, (T.set i .z)[q]? = some r := ⟨_, List.getElem?_eq_getElem (by rw [HS.out.len]; exact hlt2)⟩
                  obtain ⟨d0, d1⟩ := HS.out.row hrq
                  have hlb := HLB.out q ⟨lb, y⟩ hrq
                  have hlo := fits_lo (HI2.out.right.fits q _ hrq)
                  have hgs := HS.out.lt
                  have SA := Lib.hid (HS.out.below (alloc_below _ (.cells #[.int .u16 (lb : Int), .int .i64 y] 37)))
                  have HC := take_count (p := busy) hrq
                  simp only at hlb hlo d0 d1
                  have hcl : ((T.set i .z).take q).countP busy ≤ 16 := Nat.le_trans List.countP_le_length (by rw [List.length_take]; omega)
                  by_cases hy : 0 < y
                  · have g1 : decide (0 < y) = true := decide_eq_true hy
                    have hat3 := (HI2.out.have_ lb q ⟨lb, y⟩ (HI2.out.right.fnd_at hrq (by show y ≠ 0; omega)) hrq).1
                    have hlk := SA.out.look hlb hat3
                    have hne : (y != y) = false := by simp
                    have hb1 : busy ⟨lb, y⟩ = true := by simp [busy, free]; omega
                    rw [hb1, if_pos rfl] at HC
                    generalize ((T.set i .z).take q).countP busy = kk at HC hcl ⊢
                    have HC := Lib.hid HC
                    clear hrq hat3 hb1
                    go_wp2
                    go_roundw
                    case rel => exact ⟨q + 1, by omega, by go_num, by rw [HC.out]; go_num, SA.out⟩
                    case measure => simp [intOf]; omega
                  · have g1 : decide (0 < y) = false := decide_eq_false hy
                    have hb1 : busy ⟨lb, y⟩ = false := by simp [busy, free]; omega
                    rw [hb1, if_neg (by decide)] at HC
                    generalize ((T.set i .z).take q).countP busy = kk at HC hcl ⊢
                    have HC := Lib.hid HC
                    clear hrq hb1
                    go_wp2
                    go_roundw
                    case rel => exact ⟨q + 1, by omega, by go_num, by rw [HC.out]; rfl, SA.out⟩
                    case measure => simp [intOf]; omega
                · obtain rfl : q = 16 := by omega
                  have ht : (T.set i .z).take 16 = T.set i .z := List.take_of_length_le (by rw [HS.out.len]; exact Nat.le_refl _)
                  have hml := HS.out.lenr HI2.out.cnt
                  rw [ht]
                  generalize (T.set i .z).countP busy = mm at hml ⊢
                  have hne : ((mm : Int) != (mm : Int)) = false := by simp
                  go_wp2
                  go_roundw
                  case rel => exact ⟨j + 1, T.set i .z, at2, there2, m2, g3, c3, by omega, by omega, by go_num, rfl, HI2.out, HLB.out, HS.out⟩
                  case measure => simp [intOf]; omega
            · have h2 : 1 < x := by omega
              obtain ⟨hret, _, hinv2⟩ := HI.out.less hfa hri (by omega)
              have HRet := Lib.hid hret
              have HI2 := Lib.hid hinv2
              have HLB := Lib.hid (HL.out.set (i := i) (r := ⟨a, r.refs - 1⟩) ha6)
              have HMlt : Hid (m < maxLen) := Lib.hid (by have := HI.out.cnt; have h2 : T.countP busy ≤ T.length := List.countP_le_length; rw [HI.out.right.len] at h2; unfold maxLen; omega)
              have HA6 : Hid (U16 (a : Int)) := Lib.hid ⟨by omega, by omega⟩
              have HBL := Lib.hid hbl
              have HRB := Lib.hid (rightB_yes HI2.out.right)
              obtain ⟨at2, hat2⟩ : ∃ f, f = (fun k => if k = (a : Int) then r.refs - 1 else at_ k) := ⟨_, rfl⟩
              obtain ⟨there2, hth2⟩ : ∃ f, f = (fun k => k == (a : Int) || there k) := ⟨_, rfl⟩
              obtain ⟨m2, hm2⟩ : ∃ f, f = (if there (a : Int) then m else m + 1) := ⟨_, rfl⟩
              rw [← hat2, ← hth2, ← hm2] at HI2
              have E2 : Hid (at2 = (fun k => if k = (a : Int) then r.refs - 1 else at_ k) ∧ there2 = (fun k => k == (a : Int) || there k) ∧ m2 = (if there (a : Int) then m else m + 1)) := Lib.hid ⟨hat2, hth2, hm2⟩
              clear hret hinv2 hat2 hth2 hm2
              have hw1 : IntKind.i64.wrap (x - 1) = x - 1 := by rw [IntKind.wrap_i64]; omega
              have hne1 : (x - 1 == 0) = false := by simp; omega
              rw [hx] at HRet HI2 E2 HLB HRB
              clear hri
              go_wp2_with (first
                | (go_at_call 11; (with_reducible refine (find_any T _ 16 _ a _ S0.out.len S0.out.rd (by decide)).mono ?_); rintro e w2 ⟨he, hb2⟩; obtain rfl := he; rw [HF.out, HA.out]; have S2 := Lib.hid (S0.out.below hb2); have V2 := Lib.hid (V0.out.below hb2 V0.out.lt); clear hb2; have hlk2 := S2.out.look ha6 hat; have v0 := V2.out.cell 0; have v1 := V2.out.cell 1; have hv2 := V2.out.lt; simp only [fndV, Option.getD_some, Option.isSome_some])
                | (go_at_call 15; (with_reducible refine (rel_any T _ 16 _ _ _ S2.out.len S2.out.rd).mono ?_); rintro e w3 hh; obtain ⟨g3, c3, he, _, hr3, hb3⟩ := hh.got HRet.out (by rw [List.length_set]; exact S2.out.len); obtain rfl := he; have S3 := Lib.hid (S2.out.rows hb3 hr3 (by rw [List.length_set]; exact S2.out.len)); have V3 := Lib.hid (V2.out.below hb3 V2.out.lt); clear hb3 hh hr3; have hlk3 := S3.out.look ha6 hat; have v30 := V3.out.cell 0; have v31 := V3.out.cell 1; have hv3 := V3.out.lt)
                | (at_mapUpdate; refine wpList_mput (β := Int) (enc := Value.int .i64) rfl (.tmp 57) (.tmp 59) (.tmp 61) rfl intE Try.underlying47 rfl S3.out.map HMlt.out HA6.out rfl (x := x - 1) (by unfold I64; omega) (by first | rfl | simp) ?_; intro w4 hM4 hG4; have S4 := Lib.hid (S3.out.put hM4 hG4); have V4 := Lib.hid (V3.out.grown hG4 (by intro e; injection e with e; have := HBL.out; omega)); clear hM4 hG4; have hlk4 := S4.out.look ha6 (x := x - 1) (by simp); have v40 := V4.out.cell 0; have v41 := V4.out.cell 1; have hv4 := V4.out.lt)
                | (go_at_call 17; (with_reducible refine (right_all (T.set i ⟨a, x - 1⟩) _ 16 _ _ S4.out.len S4.out.rd).mono ?_); rintro e w7 ⟨he, hb7⟩; obtain rfl := he; rw [HRB.out]; have S7 := Lib.hid (S4.out.below hb7); clear hb7))
              have S8 : Hid (St w w7 b (T.set i ⟨a, x - 1⟩) at2 there2 m2 g3) := Lib.hid (by rw [E2.out.1, E2.out.2.1, E2.out.2.2]; exact S7.out)
              clear HF HA hat E2 hlk2 hlk3 hlk4 S0 V0 S2 V2 S3 V3 S4 V4 S7 HS HI HRet v0 v1 v30 v31 v40 v41
              go_loopw [15, 110] (fun v k wx => ∃ q : Nat, q ≤ 16 ∧ k = .int .i64 (q : Int) ∧ v = .int .i64 (((((T.set i ⟨a, x - 1⟩).take q).countP busy : Nat)) : Int) ∧ St w wx b (T.set i ⟨a, x - 1⟩) at2 there2 m2 g3) (fun _ k _ => 16 - (intOf k).toNat)
              case atStart => exact ⟨0, Nat.zero_le _, rfl, rfl, S8.out⟩
              case round =>
                obtain ⟨q, hq, rfl, rfl, hS⟩ := hrel
                have HS := Lib.hid hS
                have hbel := hS.bel.size
                clear hS
                by_cases hlt2 : q < 16
                · obtain ⟨⟨lb, y⟩, hrq⟩ : ∃ r, (T.set i ⟨a, x - 1⟩)[q]? = some r := ⟨_, List.getElem?_eq_getElem (by rw [HS.out.len]; exact hlt2)⟩
                  obtain ⟨d0, d1⟩ := HS.out.row hrq
                  have hlb := HLB.out q ⟨lb, y⟩ hrq
                  have hlo := fits_lo (HI2.out.right.fits q _ hrq)
                  have hgs := HS.out.lt
                  have SA := Lib.hid (HS.out.below (alloc_below _ (.cells #[.int .u16 (lb : Int), .int .i64 y] 37)))
                  have HC := take_count (p := busy) hrq
                  simp only at hlb hlo d0 d1
                  have hcl : ((T.set i ⟨a, x - 1⟩).take q).countP busy ≤ 16 := Nat.le_trans List.countP_le_length (by rw [List.length_take]; omega)
                  by_cases hy : 0 < y
                  · have g1 : decide (0 < y) = true := decide_eq_true hy
                    have hat3 := (HI2.out.have_ lb q ⟨lb, y⟩ (HI2.out.right.fnd_at hrq (by show y ≠ 0; omega)) hrq).1
                    have hlk := SA.out.look hlb hat3
                    have hne : (y != y) = false := by simp
                    have hb1 : busy ⟨lb, y⟩ = true := by simp [busy, free]; omega
                    rw [hb1, if_pos rfl] at HC
                    generalize ((T.set i ⟨a, x - 1⟩).take q).countP busy = kk at HC hcl ⊢
                    have HC := Lib.hid HC
                    clear hrq hat3 hb1
                    go_wp2
                    go_roundw
                    case rel => exact ⟨q + 1, by omega, by go_num, by rw [HC.out]; go_num, SA.out⟩
                    case measure => simp [intOf]; omega
                  · have g1 : decide (0 < y) = false := decide_eq_false hy
                    have hb1 : busy ⟨lb, y⟩ = false := by simp [busy, free]; omega
                    rw [hb1, if_neg (by decide)] at HC
                    generalize ((T.set i ⟨a, x - 1⟩).take q).countP busy = kk at HC hcl ⊢
                    have HC := Lib.hid HC
                    clear hrq hb1
                    go_wp2
                    go_roundw
                    case rel => exact ⟨q + 1, by omega, by go_num, by rw [HC.out]; rfl, SA.out⟩
                    case measure => simp [intOf]; omega
                · obtain rfl : q = 16 := by omega
                  have ht : (T.set i ⟨a, x - 1⟩).take 16 = T.set i ⟨a, x - 1⟩ := List.take_of_length_le (by rw [HS.out.len]; exact Nat.le_refl _)
                  have hml := HS.out.lenr HI2.out.cnt
                  rw [ht]
                  generalize (T.set i ⟨a, x - 1⟩).countP busy = mm at hml ⊢
                  have hne : ((mm : Int) != (mm : Int)) = false := by simp
                  go_wp2
                  go_roundw
                  case rel => exact ⟨j + 1, T.set i ⟨a, x - 1⟩, at2, there2, m2, g3, c3, by omega, by omega, by go_num, rfl, HI2.out, HLB.out, HS.out⟩
                  case measure => simp [intOf]; omega
          · obtain rfl : gone = false := by simpa using hgo
            obtain ⟨hret, _, _, _, hinv2⟩ := HI.out.more hj3 hfa hri
            have HRet := Lib.hid hret
            have HI2 := Lib.hid hinv2
            have HLB := Lib.hid (HL.out.set (i := i) (r := ⟨a, r.refs + 1⟩) ha6)
            have HMlt : Hid (m < maxLen) := Lib.hid (by have := HI.out.cnt; have h2 : T.countP busy ≤ T.length := List.countP_le_length; rw [HI.out.right.len] at h2; unfold maxLen; omega)
            have HA6 : Hid (U16 (a : Int)) := Lib.hid ⟨by omega, by omega⟩
            have HBL := Lib.hid hbl
            have HRB := Lib.hid (rightB_yes HI2.out.right)
            obtain ⟨at2, hat2⟩ : ∃ f, f = (fun k => if k = (a : Int) then r.refs + 1 else at_ k) := ⟨_, rfl⟩
            obtain ⟨there2, hth2⟩ : ∃ f, f = (fun k => k == (a : Int) || there k) := ⟨_, rfl⟩
            obtain ⟨m2, hm2⟩ : ∃ f, f = (if there (a : Int) then m else m + 1) := ⟨_, rfl⟩
            rw [← hat2, ← hth2, ← hm2] at HI2
            have E2 : Hid (at2 = (fun k => if k = (a : Int) then r.refs + 1 else at_ k) ∧ there2 = (fun k => k == (a : Int) || there k) ∧ m2 = (if there (a : Int) then m else m + 1)) := Lib.hid ⟨hat2, hth2, hm2⟩
            clear hret hinv2 hat2 hth2 hm2
            have hw1 : IntKind.i64.wrap (x + 1) = x + 1 := by rw [IntKind.wrap_i64]; omega
            have hne1 : (x + 1 == 0) = false := by simp; omega
            rw [hx] at HRet HI2 E2 HLB HRB
            clear hri
            go_wp2_with (first
              | (go_at_call 11; (with_reducible refine (find_any T _ 16 _ a _ S0.out.len S0.out.rd (by decide)).mono ?_); rintro e w2 ⟨he, hb2⟩; obtain rfl := he; rw [HF.out, HA.out]; have S2 := Lib.hid (S0.out.below hb2); have V2 := Lib.hid (V0.out.below hb2 V0.out.lt); clear hb2; have hlk2 := S2.out.look ha6 hat; have v0 := V2.out.cell 0; have v1 := V2.out.cell 1; have hv2 := V2.out.lt; simp only [fndV, Option.getD_some, Option.isSome_some])
              | (go_at_call 13; (with_reducible refine (ret_any T _ 16 _ a _ S2.out.len S2.out.rd).mono ?_); rintro e w3 hh; obtain ⟨g3, c3, he, _, hr3, hb3⟩ := hh.got HRet.out (by rw [List.length_set]; exact S2.out.len); obtain rfl := he; have S3 := Lib.hid (S2.out.rows hb3 hr3 (by rw [List.length_set]; exact S2.out.len)); have V3 := Lib.hid (V2.out.below hb3 V2.out.lt); clear hb3 hh hr3; have hlk3 := S3.out.look ha6 hat; have v30 := V3.out.cell 0; have v31 := V3.out.cell 1; have hv3 := V3.out.lt)
              | (at_mapUpdate; refine wpList_mput (β := Int) (enc := Value.int .i64) rfl (.tmp 92) (.tmp 94) (.tmp 96) rfl intE Try.underlying47 rfl S3.out.map HMlt.out HA6.out rfl (x := x + 1) (by unfold I64; omega) (by first | rfl | simp) ?_; intro w4 hM4 hG4; have S4 := Lib.hid (S3.out.put hM4 hG4); have V4 := Lib.hid (V3.out.grown hG4 (by intro e; injection e with e; have := HBL.out; omega)); clear hM4 hG4; have hlk4 := S4.out.look ha6 (x := x + 1) (by simp); have v40 := V4.out.cell 0; have v41 := V4.out.cell 1; have hv4 := V4.out.lt)
              | (go_at_call 17; (with_reducible refine (right_all (T.set i ⟨a, x + 1⟩) _ 16 _ _ S4.out.len S4.out.rd).mono ?_); rintro e w7 ⟨he, hb7⟩; obtain rfl := he; rw [HRB.out]; have S7 := Lib.hid (S4.out.below hb7); clear hb7))
            have S8 : Hid (St w w7 b (T.set i ⟨a, x + 1⟩) at2 there2 m2 g3) := Lib.hid (by rw [E2.out.1, E2.out.2.1, E2.out.2.2]; exact S7.out)
            clear HF HA hat E2 hlk2 hlk3 hlk4 S0 V0 S2 V2 S3 V3 S4 V4 S7 HS HI HRet v0 v1 v30 v31 v40 v41
            go_loopw [15, 110] (fun v k wx => ∃ q : Nat, q ≤ 16 ∧ k = .int .i64 (q : Int) ∧ v = .int .i64 (((((T.set i ⟨a, x + 1⟩).take q).countP busy : Nat)) : Int) ∧ St w wx b (T.set i ⟨a, x + 1⟩) at2 there2 m2 g3) (fun _ k _ => 16 - (intOf k).toNat)
            case atStart => exact ⟨0, Nat.zero_le _, rfl, rfl, S8.out⟩
            case round =>
              obtain ⟨q, hq, rfl, rfl, hS⟩ := hrel
              have HS := Lib.hid hS
              have hbel := hS.bel.size
              clear hS
              by_cases hlt2 : q < 16
              · obtain ⟨⟨lb, y⟩, hrq⟩ : ∃ r, (T.set i ⟨a, x + 1⟩)[q]? = some r := ⟨_, List.getElem?_eq_getElem (by rw [HS.out.len]; exact hlt2)⟩
                obtain ⟨d0, d1⟩ := HS.out.row hrq
                have hlb := HLB.out q ⟨lb, y⟩ hrq
                have hlo := fits_lo (HI2.out.right.fits q _ hrq)
                have hgs := HS.out.lt
                have SA := Lib.hid (HS.out.below (alloc_below _ (.cells #[.int .u16 (lb : Int), .int .i64 y] 37)))
                have HC := take_count (p := busy) hrq
                simp only at hlb hlo d0 d1
                have hcl : ((T.set i ⟨a, x + 1⟩).take q).countP busy ≤ 16 := Nat.le_trans List.countP_le_length (by rw [List.length_take]; omega)
                by_cases hy : 0 < y
                · have g1 : decide (0 < y) = true := decide_eq_true hy
                  have hat3 := (HI2.out.have_ lb q ⟨lb, y⟩ (HI2.out.right.fnd_at hrq (by show y ≠ 0; omega)) hrq).1
                  have hlk := SA.out.look hlb hat3
                  have hne : (y != y) = false := by simp
                  have hb1 : busy ⟨lb, y⟩ = true := by simp [busy, free]; omega
                  rw [hb1, if_pos rfl] at HC
                  generalize ((T.set i ⟨a, x + 1⟩).take q).countP busy = kk at HC hcl ⊢
                  have HC := Lib.hid HC
                  clear hrq hat3 hb1
                  go_wp2
                  go_roundw
                  case rel => exact ⟨q + 1, by omega, by go_num, by rw [HC.out]; go_num, SA.out⟩
                  case measure => simp [intOf]; omega
                · have g1 : decide (0 < y) = false := decide_eq_false hy
                  have hb1 : busy ⟨lb, y⟩ = false := by simp [busy, free]; omega
                  rw [hb1, if_neg (by decide)] at HC
                  generalize ((T.set i ⟨a, x + 1⟩).take q).countP busy = kk at HC hcl ⊢
                  have HC := Lib.hid HC
                  clear hrq hb1
                  go_wp2
                  go_roundw
                  case rel => exact ⟨q + 1, by omega, by go_num, by rw [HC.out]; rfl, SA.out⟩
                  case measure => simp [intOf]; omega
              · obtain rfl : q = 16 := by omega
                have ht : (T.set i ⟨a, x + 1⟩).take 16 = T.set i ⟨a, x + 1⟩ := List.take_of_length_le (by rw [HS.out.len]; exact Nat.le_refl _)
                have hml := HS.out.lenr HI2.out.cnt
                rw [ht]
                generalize (T.set i ⟨a, x + 1⟩).countP busy = mm at hml ⊢
                have hne : ((mm : Int) != (mm : Int)) = false := by simp
                go_wp2
                go_roundw
                case rel => exact ⟨j + 1, T.set i ⟨a, x + 1⟩, at2, there2, m2, g3, c3, by omega, by omega, by go_num, rfl, HI2.out, HLB.out, HS.out⟩
                case measure => simp [intOf]; omega
    · obtain rfl : j = n := by omega
      have HB := Lib.hid hS.bel
      clear hS hinv hlabs
      go_wp2
      go_ret
      exact ⟨rfl, HB.out⟩

theorem counts_contract (H : Type) (enc : TypeId × Value → H) (W : World) (base : Nat) (args : Array Value) (ds gs : List (DataW H)) (before : List MemPlace)
    (hval : ∀ (j : Nat) t v, Try.f7.params[j]? = some t → args[j]? = some v → Value.okWide Try.prog W .any base t v)
    (hW : DataW.Whole enc Try.prog Try.f7.params.toList Rows.internCountsSpec.vars false W args.toList ds gs before) :
    Calls Try.prog 7 args W fun e W' => ∃ v, e = .returned v ∧ Rows.internCountsSpec.post enc Try.prog Try.f7 false true false false W args v W' := by
  have hW' := hW
  have hlt : ∀ x ∈ before, x.block < W.heap.size := fun x hx => hW.lt x hx
  obtain ⟨p, q, hA0, hV, rfl, _, _⟩ := hW
  have hA : DataW.TrodAll enc Try.prog W 0 (fun _ => true) true Try.f7.params.toList args.toList ds p := hA0
  rw [Try.params7] at hA hval
  obtain ⟨v0, vs0, d0, ds0, p0, q0, hargs, rfl, rfl, h0, r0⟩ := trodAll_cons hA
  obtain ⟨rfl, rfl, rfl⟩ := trodAll_nil r0
  obtain rfl : args = #[v0] := by cases args; simp_all
  obtain ⟨rfl, rfl⟩ := trodVars_none hV
  clear hA0
  obtain ⟨A0, n0, c0, l0, rfl, hn0, hc0, hm0, hr0⟩ := open_actsL (hval 0 45 v0 rfl rfl) h0 (fun x hx => hlt x (by simp [hx]))
  unfold maxLen at hm0
  refine (counts_walk l0 A0 n0 c0 W hn0 hr0 (by omega)).mono fun e W' ⟨he, hb⟩ => ?_
  subst he
  exact ⟨_, rfl, law_post laid (by kernel_rfl) Try.underlying4 (by rw [Try.params7]; decide +kernel) rfl hW' ⟨rfl, rfl, rfl⟩ hb⟩

set_option maxRecDepth 100000 in
theorem counts_lifted (os : Os) (started : os.Started) (H : Type) (enc : TypeId × Value → H) :
    ReturnsInHanded {} Try.checked os 7 .any (Rows.internCountsSpec.pre6 enc Try.prog Try.f7 Rows.internCountsRow.domain false) (Rows.internCountsSpec.post enc Try.prog Try.f7 false true false false) := by
  refine returnsInHanded_of_change (C := Try.checked) own started (by kernel_rfl) Try.func7
    (ChangeSpec.witness6 (enc := enc) (C := Try.checked) false ⟨#[], #[.slice none 0 0], []⟩ 8 (by kernel_rfl) (by kernel_rfl) (by kernel_rfl) (by kernel_rfl)) ?_
  intro W base args ds gs before hval hW _ _
  exact counts_contract H enc W base args ds gs before hval hW

/-- InternCounts is true for every input. -/
theorem counts_holds : Rows.InternCountsSaid :=
  OpenClaim.holds_of_wide 7 Try.f7 rfl rfl rfl rfl rfl rfl rfl ⟨rfl, rfl, rfl, rfl, rfl⟩ rfl rfl rfl rfl rfl (by kernel_rfl) Try.func7 (by kernel_rfl)
    (of_decide_eq_true (by kernel_rfl)) (by unfold Func.isWrapper; first | (rw [if_pos (by decide +kernel)]; kernel_rfl) | (rw [if_neg (by decide +kernel)]; exact ⟨rfl, rfl⟩))
    (fun os started H enc _ => counts_lifted os started H enc)
end Go.Proofs.Ytdecllllcoflbaa
