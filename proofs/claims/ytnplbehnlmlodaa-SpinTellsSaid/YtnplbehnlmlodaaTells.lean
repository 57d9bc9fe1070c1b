/-
  SpinTells: two texts that differ in one byte have unlike hashes.
-/
import Derived.Test.YtnplbehnlmlodaaL
namespace Go.Proofs.Ytnplbehnlmlodaa
open Go.ChangeShapes Go.WideShapes Go.ChangeAt Go.RowKit

/-- The world behind a text's conversion to bytes. -/
def convW (w : World) (t : ByteArray) : World :=
  w.drew.alloc (.cells (bytesRow t (grownCap w t.size 0 5)) 5 ((bytesRow t (grownCap w t.size 0 5)).size, (bytesRow t (grownCap w t.size 0 5)).size + 1))
def capW (w : World) (t : ByteArray) : Nat := grownCap w t.size 0 5
theorem run_conv (w : World) (t : ByteArray) : (convert 9 37 (.string t)).run Try.prog w = .ok (.slice (some ⟨w.heap.size, 0, none⟩) t.size (capW w t)) (convW w t) :=
  run_bytes_of_string (P := Try.prog) w 9 37 5 t Try.underlying9 Try.underlying37 Try.underlying5
theorem convW_below (w : World) (t : ByteArray) : Below w.heap.size w (convW w t) := (((Below.refl _ _).drew).alloc (Nat.le_refl _) _)
theorem convW_cell (w : World) (t : ByteArray) (j : Nat) (hj : j < t.size) : (convW w t).cell? ⟨w.heap.size, j, none⟩ = some (byteV (t.data.toList[j]'(by simpa using hj))) := by
  have h := World.cell?_alloc_mark w.drew (bytesRow t (grownCap w t.size 0 5)) 5 ((bytesRow t (grownCap w t.size 0 5)).size, (bytesRow t (grownCap w t.size 0 5)).size + 1) j
  rw [bytesRow_at t _ j hj] at h
  exact h
theorem row_size (t : ByteArray) (cap : Nat) : t.size ≤ (bytesRow t cap).size := by
  unfold bytesRow
  simp
theorem convW_frozen (w : World) (t : ByteArray) (j : Nat) (hj : j < t.size) : (convW w t).frozen? ⟨w.heap.size, j, none⟩ = false := by
  have h := World.frozen?_alloc_mark w.drew (bytesRow t (grownCap w t.size 0 5)) 5 (bytesRow t (grownCap w t.size 0 5)).size ((bytesRow t (grownCap w t.size 0 5)).size + 1) j
  have := row_size t (grownCap w t.size 0 5)
  rw [show decide ((bytesRow t (grownCap w t.size 0 5)).size ≤ j) = false from decide_eq_false (by omega), Bool.false_and] at h
  exact h
/-- The text of the bytes, behind a store of one of them. -/
theorem run_back (w : World) (t : ByteArray) (k : Nat) (c : UInt8) :
    (convert 37 9 (.slice (some ⟨w.heap.size, 0, none⟩) t.size (capW w t))).run Try.prog ((convW w t).setCell ⟨w.heap.size, k, none⟩ (.int .u8 (c.toNat : Int))) =
      .ok (.string ⟨(t.data.toList.set k c).toArray⟩) ((convW w t).setCell ⟨w.heap.size, k, none⟩ (.int .u8 (c.toNat : Int))) := by
  refine str_of (B := w.heap.size + 1) (by simp) (.inr ⟨w.heap.size, 0, rfl, Nat.lt_succ_self _, fun j u hu => ?_⟩)
  rw [Nat.zero_add]
  have hj : j < t.size := by
    have := (List.getElem?_eq_some_iff.1 hu).1
    simpa [bytesV] using this
  have hc := convW_cell w t j hj
  by_cases e : k = j
  · subst e
    rw [World.cell?_setCell_same' _ _ _ (by rw [hc]; rfl), ← hu]
    simp [bytesV, byteV, hj]
  · rw [World.cell?_setCell_other _ _ _ _ (fun h => by injection h; omega), hc, ← hu]
    simp [bytesV, e, hj]

/-- The two hashes are like just if the byte is the same. -/
theorem tells_pair (l : List UInt8) (k : Nat) (hk : k < l.length) (c : UInt8) : (ofX (l.set k c) == ofX l && ofY (l.set k c) == ofY l) = decide (l[k] = c) := by
  have e1 : l = l.take k ++ l[k] :: l.drop (k + 1) := by rw [List.getElem_cons_drop, List.take_append_drop]
  have e2 : l.set k c = l.take k ++ c :: l.drop (k + 1) := by rw [List.set_eq_take_append_cons_drop, if_pos hk]
  have h := more_tells (1, 0) (l.take k) (l.drop (k + 1)) c l[k]
  rw [← e1, ← e2] at h
  by_cases e : l[k] = c
  · rw [decide_eq_true e]
    have h' := h.2 e.symm
    unfold ofX ofY mX mY
    rw [h']
    simp
  · rw [decide_eq_false e]
    cases hb : (ofX (l.set k c) == ofX l && ofY (l.set k c) == ofY l) with
    | false => rfl
    | true =>
      exfalso
      simp only [Bool.and_eq_true, beq_iff_eq] at hb
      exact e (h.1 (Prod.ext hb.1 hb.2)).symm
theorem tells_below {w w1 w2 w3 wc : World} {k : Nat} {u : Value} (h1 : Below w.heap.size w w1) (hc : Below w1.heap.size w1 wc) (hb2 : Below (wc.setCell ⟨w1.heap.size, k, none⟩ u).heap.size (wc.setCell ⟨w1.heap.size, k, none⟩ u) w2) (hb3 : Below w2.heap.size w2 w3) : Below w.heap.size w w3 := by
  have hs := (h1.trans (hc.mono h1.size)).setCell (p := ⟨w1.heap.size, k, none⟩) h1.size u
  have h2 := hs.trans (hb2.mono hs.size)
  exact h2.trans (hb3.mono h2.size)

set_option maxRecDepth 100000 in
set_option maxHeartbeats 1600000 in
theorem tells_none (s t : ByteArray) (m : Int) (c : UInt8) (w : World) (hF : ∀ w, Calls Try.prog 20 #[.string s] w fun e w' => e = .returned (.string t) ∧ w = w') (hz : t.size = 0) :
    Calls Try.prog 7 #[.string s, .int .u64 m, .int .u8 (c.toNat : Int)] w fun e w' => e = .returned (.bool true) ∧ Below w.heap.size w w' := by
  have hcv := fun (w : World) => run_conv w t
  rw [hz] at hcv
  have HF := Lib.hid hF
  clear hF hz
  go_enter Try.func7, Try.ntmps7
  go_wp2_with (first
      | (go_at_call 10; refine (shown_any _).mono ?_; rintro e w1 ⟨rfl, hb1⟩)
      | (go_at_call 20; refine (HF.out _).mono ?_; rintro e w' ⟨rfl, rfl⟩))
  go_ret
  exact ⟨rfl, hb1.trans ((convW_below w1 t).mono hb1.size)⟩

set_option maxRecDepth 100000 in
set_option maxHeartbeats 1600000 in
theorem tells_some (s t : ByteArray) (m : Int) (c : UInt8) (w : World) (hF : ∀ w, Calls Try.prog 20 #[.string s] w fun e w' => e = .returned (.string t) ∧ w = w') (hz : ¬ t.size = 0) (hl : t.size ≤ 20000) (h0 : 0 ≤ m) (h1 : m ≤ 18446744073709551615) :
    Calls Try.prog 7 #[.string s, .int .u64 m, .int .u8 (c.toNat : Int)] w fun e w' => e = .returned (.bool true) ∧ Below w.heap.size w w' := by
  have hcv := fun (w : World) => run_conv w t
  have hz' : ((t.size : Int) == 0) = false := beq_eq_false_iff_ne.2 (by omega)
  have hc0 := c.toNat_lt
  have g0 : 0 ≤ m % (t.size : Int) := Int.emod_nonneg _ (by omega)
  have g1 : m % (t.size : Int) < t.size := Int.emod_lt_of_pos _ (by omega)
  obtain ⟨k, hk⟩ := Int.eq_ofNat_of_zero_le g0
  rw [hk] at g0 g1
  have hk' : k < t.size := by omega
  have hp : 1 ≤ (t.size : Int) := by omega
  have hkl : k < t.data.toList.length := by simpa using hk'
  obtain ⟨b, hb⟩ : ∃ b, b = t.data.toList[k] := ⟨_, rfl⟩
  have hcell : ∀ w, (convW w t).cell? ⟨w.heap.size, k, none⟩ = some (.int .u8 (b.toNat : Int)) := fun w => by rw [convW_cell w t k hk', hb]; rfl
  have hfro := fun w => convW_frozen w t k hk'
  have hbk := fun w => run_back w t k c
  have hsize : (ByteArray.mk (t.data.toList.set k c).toArray).size = t.size := by
    show (t.data.toList.set k c).toArray.size = t.data.size
    simp
  have hof := fun w => of_any ⟨(t.data.toList.set k c).toArray⟩ w (by rw [hsize]; omega)
  have hof2 := fun w => of_any t w (by omega)
  have hq := tells_pair t.data.toList k hkl c
  rw [← hb] at hq
  have e1 : (ByteArray.mk (t.data.toList.set k c).toArray).data.toList = t.data.toList.set k c := rfl
  rw [e1] at hof
  obtain ⟨P, hP⟩ : ∃ P, P = ofX (t.data.toList.set k c) := ⟨_, rfl⟩
  obtain ⟨Q, hQ⟩ : ∃ Q, Q = ofY (t.data.toList.set k c) := ⟨_, rfl⟩
  obtain ⟨R, hR⟩ : ∃ R, R = ofX t.data.toList := ⟨_, rfl⟩
  obtain ⟨T, hT⟩ : ∃ T, T = ofY t.data.toList := ⟨_, rfl⟩
  obtain ⟨z, hzz⟩ : ∃ z, z = ByteArray.mk (t.data.toList.set k c).toArray := ⟨_, rfl⟩
  rw [← hP, ← hQ, ← hzz] at hof
  rw [← hP, ← hQ, ← hR, ← hT] at hq
  rw [← hR, ← hT] at hof2
  have hbk' : ∀ w, (convert 37 9 (.slice (some ⟨w.heap.size, 0, none⟩) t.size (capW w t))).run Try.prog ((convW w t).setCell ⟨w.heap.size, k, none⟩ (.int .u8 (c.toNat : Int))) = .ok (.string z) ((convW w t).setCell ⟨w.heap.size, k, none⟩ (.int .u8 (c.toNat : Int))) := fun w => by rw [hzz]; exact hbk w
  have heq : ∀ W, (binOp .eql 23 (.agg #[.int .i64 P, .int .i64 Q]) (.agg #[.int .i64 R, .int .i64 T])).run Try.prog W = .ok (.bool (decide (b = c))) W := fun W => by rw [spin_eql, hq]
  have gd := guard_at
  have Hbel := Lib.hid (fun w => (convW_below w t))
  have HF := Lib.hid hF
  have Hof := Lib.hid hof
  have Hof2 := Lib.hid hof2
  clear hF hz hbk hof hof2 hq hP hQ hR hT hzz hsize e1 hb hkl
  by_cases e : b = c
  · have hd : decide (b = c) = true := decide_eq_true e
    rw [hd] at heq
    subst e
    clear hd
    go_enter Try.func7, Try.ntmps7
    go_wp2_with (first
      | (go_at_call 10; refine (shown_any _).mono ?_; rintro e w1 ⟨rfl, hb1⟩)
      | (go_at_call 20; refine (HF.out _).mono ?_; rintro e w' ⟨rfl, rfl⟩)
      | (go_at_call 19; (with_reducible refine (Hof.out _).mono ?_); rintro e w2 ⟨rfl, hb2⟩)
      | (go_at_call 19; (with_reducible refine (Hof2.out _).mono ?_); rintro e w3 ⟨rfl, hb3⟩))
    go_ret
    exact ⟨rfl, tells_below hb1 (Hbel.out w1) hb2 hb3⟩
  · have hd : decide (b = c) = false := decide_eq_false e
    rw [hd] at heq
    have hn : ((b.toNat : Int) == (c.toNat : Int)) = false := beq_eq_false_iff_ne.2 (fun h => e (UInt8.toNat_inj.1 (by omega)))
    have He := Lib.hid e
    clear hd e
    go_enter Try.func7, Try.ntmps7
    go_wp2_with (first
      | (go_at_call 10; refine (shown_any _).mono ?_; rintro e w1 ⟨rfl, hb1⟩)
      | (go_at_call 20; refine (HF.out _).mono ?_; rintro e w' ⟨rfl, rfl⟩)
      | (go_at_call 19; (with_reducible refine (Hof.out _).mono ?_); rintro e w2 ⟨rfl, hb2⟩)
      | (go_at_call 19; (with_reducible refine (Hof2.out _).mono ?_); rintro e w3 ⟨rfl, hb3⟩))
    go_ret
    exact ⟨rfl, tells_below hb1 (Hbel.out w1) hb2 hb3⟩

theorem tells_walk (s : ByteArray) (m : Int) (c : Int) (w : World) (hs : s.size ≤ 9223372036854775807) (hm : 0 ≤ m ∧ m ≤ 18446744073709551615) (hc : 0 ≤ c ∧ c ≤ 255) :
    Calls Try.prog 7 #[.string s, .int .u64 m, .int .u8 c] w fun e w' => e = .returned (.bool true) ∧ Below w.heap.size w w' := by
  obtain ⟨n, rfl⟩ := Int.eq_ofNat_of_zero_le hc.1
  have e : ((n : Nat) : Int) = ((UInt8.ofNat n).toNat : Int) := by rw [UInt8.toNat_ofNat']; omega
  rw [e]
  by_cases hz : (few s).size = 0
  · exact tells_none s (few s) m _ w (fun w => few_any s w hs) hz
  · exact tells_some s (few s) m _ w (fun w => few_any s w hs) hz (by rw [few_size]; omega) hm.1 hm.2

theorem tells_contract (H : Type) (enc : TypeId × Value → H) (W : World) (base : Nat) (args : Array Value) (ds gs : List (DataW H)) (before : List MemPlace)
    (hval : ∀ (j : Nat) t v, Try.f7.params[j]? = some t → args[j]? = some v → Value.okWide Try.prog W .any base t v)
    (hW : DataW.Whole enc Try.prog Try.f7.params.toList Rows.spinTellsSpec.vars false W args.toList ds gs before) :
    Calls Try.prog 7 args W fun e W' => ∃ v, e = .returned v ∧ Rows.spinTellsSpec.post enc Try.prog Try.f7 false true false false W args v W' := by
  have hW' := hW
  have hlt : ∀ x ∈ before, x.block < W.heap.size := fun x hx => hW.lt x hx
  obtain ⟨p, q, hA0, hV, rfl, _, _⟩ := hW
  have hA : DataW.TrodAll enc Try.prog W 0 (fun _ => true) true Try.f7.params.toList args.toList ds p := hA0
  rw [Try.params7] at hA hval
  obtain ⟨v0, vs0, d0, ds0, p0, q0, hargs, rfl, rfl, h0, r0⟩ := trodAll_cons hA
  obtain ⟨v1, vs1, d1, ds1, p1, q1, rfl, rfl, rfl, h1, r1⟩ := trodAll_cons r0
  obtain ⟨v2, vs2, d2, ds2, p2, q2, rfl, rfl, rfl, h2, r2⟩ := trodAll_cons r1
  obtain ⟨rfl, rfl, rfl⟩ := trodAll_nil r2
  obtain rfl : args = #[v0, v1, v2] := by cases args; simp_all
  obtain ⟨rfl, rfl⟩ := trodVars_none hV
  clear hA0
  obtain ⟨s0, rfl, rfl, rfl, hs0⟩ := Go.ChangeMaps.open_string Try.underlying9 (hval 0 9 v0 rfl rfl) h0
  unfold maxLen at hs0
  obtain ⟨a1, rfl, rfl, rfl, wa1⟩ := open_int Try.underlying36 (hval 1 36 v1 rfl rfl) h1
  have bd1 := bounds_u64 wa1
  obtain ⟨a2, rfl, rfl, rfl, wa2⟩ := open_int Try.underlying5 (hval 2 5 v2 rfl rfl) h2
  have bd2 := bounds_u8 wa2
  refine (tells_walk s0 a1 a2 W (by omega) bd1 bd2).mono fun e W' ⟨he, hb⟩ => ?_
  subst he
  exact ⟨_, rfl, law_post laid (by kernel_rfl) Try.underlying4 (by rw [Try.params7]; decide +kernel) rfl hW' ⟨rfl, rfl, rfl⟩ hb⟩

set_option maxRecDepth 100000 in
theorem tells_lifted (os : Os) (started : os.Started) (H : Type) (enc : TypeId × Value → H) :
    ReturnsInHanded {} Try.checked os 7 .any (Rows.spinTellsSpec.pre6 enc Try.prog Try.f7 Rows.spinTellsRow.domain false) (Rows.spinTellsSpec.post enc Try.prog Try.f7 false true false false) := by
  refine returnsInHanded_of_change (C := Try.checked) own started (by kernel_rfl) Try.func7
    (ChangeSpec.witness6 (enc := enc) (C := Try.checked) false ⟨#[], #[.string .empty, .int .u64 0, .int .u8 0], []⟩ 8 (by kernel_rfl) (by kernel_rfl) (by kernel_rfl) (by kernel_rfl)) ?_
  intro W base args ds gs before hval hW _ _
  exact tells_contract H enc W base args ds gs before hval hW

/-- SpinTells is true for every input. -/
theorem tells_holds : Rows.SpinTellsSaid :=
  OpenClaim.holds_of_wide 7 Try.f7 rfl rfl rfl rfl rfl rfl rfl ⟨rfl, rfl, rfl, rfl, rfl⟩ rfl rfl rfl rfl rfl (by kernel_rfl) Try.func7 (by kernel_rfl)
    (of_decide_eq_true (by kernel_rfl)) (by unfold Func.isWrapper; first | (rw [if_pos (by decide +kernel)]; kernel_rfl) | (rw [if_neg (by decide +kernel)]; exact ⟨rfl, rfl⟩))
    (fun os started H enc _ => tells_lifted os started H enc)
end Go.Proofs.Ytnplbehnlmlodaa
