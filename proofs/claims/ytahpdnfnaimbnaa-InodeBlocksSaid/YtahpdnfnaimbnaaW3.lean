/-
  Package field's and the document's own Take and Fill, and the document's Same: what each call returns, and what it leaves.
-/
import Derived.Test.YtahpdnfnaimbnaaW2
namespace Go.Proofs.Ytahpdnfnaimbnaa
open Go.RowKit

theorem info23 : (Try.prog.info? 48).map (fun i => (i.zero, i.size, i.bytes)) = some (some (.int .u64 0), 1, 8) := by kernel_rfl

theorem make_nums (n : Nat) (h : n ≤ 65536) (u : World) : (Instr.makeSlice 62 (.int .i64 (n : Int)) (.int .i64 (n : Int))).run Try.prog u =
    .ok (.slice (some ⟨u.heap.size, 0, none⟩) n n) (u.alloc (.cells (numsV (List.replicate n 0)).toArray 48)) := by
  obtain ⟨i0, hi, hz0, hz1, hz2⟩ := info_parts info23
  have hr := run_make (P := Try.prog) u 62 48 i0 (.int .u64 0) Try.underlying62 hi hz0 .i64 .i64 (n : Int) (n : Int) (by omega) (Int.le_refl _) (by rw [hz2]; omega) (by omega)
  have e : (madeCells (Value.int .u64 0).cells (n * i0.size)) = (numsV (List.replicate n 0)).toArray := by
    apply Array.ext'
    rw [hz1, Nat.mul_one]
    have := toList_madeCells_one (.int .u64 0) n
    simp [numsV, numV] at this ⊢
    exact this
  simp only [Int.toNat_natCast, e] at hr
  exact hr

/-- append onto an own row of numbers. -/
theorem wpList_app23 (w : World) {ops : Array Oper} {rest : List Oper} {o : Oper} {a : Act} {Q : Exit → Act → World → Prop} (hgd : o.guard = none) (s x : Operand)
    (ho : o.op = .call { callee := .builtin .append, args := #[s, x], argTypes := #[62, 62] })
    (base : Nat) (v : Value) (n : Nat) (l : List Nat) (hs : a.eval s = v) (hown : w.ownsRow base 48 1 v n (numsV l))
    (B : Nat) (A : Option Addr) (m c : Nat) (k : List Nat) (hx : a.eval x = .slice A m c) (hm : k.length = m) (hr : Rd w B A (numsV k))
    (hbytes : (n + m) * 8 ≤ 140737488355328) (hbase : base ≤ w.heap.size)
    (h : ∀ v' w', w'.ownsRow base 48 1 v' (n + m) (numsV (l ++ k)) → w.grownBy w' v.ownBlock → wpList Try.prog ops Q rest (a.put o.dst v') w') : wpList Try.prog ops Q (o :: rest) a w := by
  obtain ⟨i0, hi, hz0, hz1, hz2⟩ := info_parts info23
  rw [numsV_append] at h
  exact wpList_app w hgd s x 62 ho base 48 i0 _ 8 Try.underlying62 hi hz0 hz1 hz2 rfl v n _ hs hown B A m c _ hx (by rw [length_numsV, hm]) hr (numsV_one _) (by simp only [maxLen]; omega) hbytes hbase h

/-- A new row of numbers is handed back, and nothing that was there is changed. -/
def MadeN (w : World) (l : List Nat) (v : Value) (w' : World) : Prop := w'.ownsRow w.heap.size 48 1 v l.length (numsV l) ∧ Below w.heap.size w w'

/-- Of a list that is being filled. -/
def partly (T : List Nat) (j : Nat) : List Nat := T.take j ++ List.replicate (T.length - j) 0
theorem partly_all (T : List Nat) : partly T T.length = T := by simp [partly]
theorem partly_zero (T : List Nat) : partly T 0 = List.replicate T.length 0 := by simp [partly]
theorem length_partly (T : List Nat) (j : Nat) (h : j ≤ T.length) : (partly T j).length = T.length := by simp [partly]; omega
theorem partly_step (T : List Nat) (j : Nat) (x : Nat) (h : T[j]? = some x) : (partly T j).set j x = partly T (j + 1) := by
  obtain ⟨hj, rfl⟩ := List.getElem?_eq_some_iff.1 h
  unfold partly
  have hl : (T.take j).length = j := by simp; omega
  rw [List.set_append_right _ _ (by omega), hl, Nat.sub_self, show T.length - j = (T.length - (j + 1)) + 1 by omega, List.replicate_succ, List.set_cons_zero, List.take_succ_eq_append_getElem hj, List.append_assoc]
  rfl
theorem numsV_set (l : List Nat) (j x : Nat) : (numsV l).set j (numV x) = numsV (l.set j x) := by simp [numsV, List.map_set]

def Taking (w : World) (g : Nat) (T : List Nat) (j : Nat) (wr : World) : Prop := Bk wr g 48 (numsV (partly T j)) ∧ w.grownBy wr (some g)
theorem taking_step {w wr : World} {g : Nat} {T : List Nat} {j x : Nat} (h : Taking w g T j wr) (hx : T[j]? = some x) : Taking w g T (j + 1) (wr.setCell ⟨g, j, none⟩ (.int .u64 (x : Int))) := by
  refine ⟨?_, only_set h.2 _ _⟩
  have := h.1.set j (numV x)
  rw [numsV_set, partly_step T j x hx] at this
  exact this
theorem taking_cell {w wr : World} {g : Nat} {T : List Nat} {j : Nat} (h : Taking w g T j wr) (hj : j < T.length) : (∃ v, wr.cell? ⟨g, j, none⟩ = some v) ∧ wr.frozen? ⟨g, j, none⟩ = false := by
  refine ⟨?_, h.1.frozen _⟩
  rw [h.1.cell]
  have hl : j < (numsV (partly T j)).length := by rw [length_numsV, length_partly _ _ (by omega)]; exact hj
  exact ⟨_, List.getElem?_eq_getElem hl⟩

set_option maxHeartbeats 400000 in
theorem take_ok (l : List UInt8) (A : Option Addr) (n c m size : Nat) (w : World) (hn : l.length = n) (hr : Rd w w.heap.size A (bytesV l)) (hc : n ≤ c) (hs8 : size ≤ 8) (hs1 : 1 ≤ size) (hm : n = m * size) (h4 : n ≤ 4096) :
    Calls Try.prog 42 #[.int .i64 size, .slice A n c] w fun e w' => ∃ v, e = .returned (.tuple #[v, .int .i64 0]) ∧ MadeN w (takel size l) v w' := by
  have hs0 : (size : Int) ≠ 0 := by omega
  have hdiv : (n : Int) / (size : Int) = (m : Int) := by rw [hm, Int.natCast_mul]; exact Int.mul_ediv_cancel _ hs0
  have hmod : (n : Int) % (size : Int) = 0 := by rw [hm, Int.natCast_mul]; exact Int.mul_emod_left _ _
  have hmn : m ≤ 4096 := Nat.le_trans (Nat.le_mul_of_pos_right m (by omega)) (hm ▸ h4)
  have hT : (takel size l).length = m := by rw [length_takel, hn, hm]; exact Nat.mul_div_cancel _ (by omega)
  have hmk := make_nums m (by omega)
  have hbk := Bk.new w 48 (numsV (List.replicate m 0))
  have hbel : Below w.heap.size w (w.alloc (.cells (numsV (List.replicate m 0)).toArray 48)) := (Below.refl _ _).alloc (Nat.le_refl _) _
  have hsrc := hr.below hbel
  obtain ⟨z, hz⟩ : ∃ z, z = (numsV (List.replicate m 0)).toArray := ⟨_, rfl⟩
  unfold Bk at hbk
  rw [← hz] at hmk hbk hbel hsrc
  have hlay : Taking (w.alloc (.cells z 48)) w.heap.size (takel size l) 0 (w.alloc (.cells z 48)) := ⟨by unfold Bk; rw [partly_zero, hT, hbk, hz], World.grownBy.refl _ _⟩
  have Hn := Lib.hid hn
  have Hm := Lib.hid hm
  have HT := Lib.hid hT
  clear hn hm hT hbk hz hr
  go_enter Try.func42, Try.ntmps42
  go_wp2_with (go_at_call 43; refine (isSize_true _ _ (by omega) (by omega)).mono ?_; rintro e w' ⟨rfl, rfl⟩)
  clear hmod hdiv
  go_loopw [28] (fun k wr => ∃ j : Nat, j ≤ m ∧ k = .int .i64 j ∧ Taking (w.alloc (.cells z 48)) w.heap.size (takel size l) j wr) (fun k _ => m - (intOf k).toNat)
  case atStart => exact ⟨0, Nat.zero_le _, rfl, hlay⟩
  case round =>
    obtain ⟨j, hj, rfl, hst⟩ := hrel
    by_cases hlt : j < m
    · have hrd := rd_grown hsrc hst.2 (by simp) (Nat.le_refl _)
      have hjm : (j : Int) * (size : Int) + size ≤ n := by
        have : (j + 1) * size ≤ m * size := Nat.mul_le_mul_right _ (by omega)
        rw [Nat.add_mul] at this
        have := Hm.out
        omega
      have hj0 : 0 ≤ (j : Int) * (size : Int) := by have := Nat.zero_le (j * size); omega
      have hne : ¬ (c = j * size) := by omega
      have hd := hrd.drop (k := j * size) (c := c) (by rw [length_bytesV, Hn.out]; omega) (by rw [length_bytesV, Hn.out]; omega)
      rw [if_neg hne, ← bytesV_drop] at hd
      have Hld := Lib.hid (show (l.drop (j * size)).length = n - j * size by rw [List.length_drop, Hn.out])
      have hx : (takel size l)[j]? = some (le ((l.drop (j * size)).take size)) := getElem?_takel size l j (by rw [← length_takel, HT.out]; exact hlt)
      have hstep := taking_step hst hx
      obtain ⟨⟨v, hcell⟩, hfr⟩ := taking_cell hst (by rw [HT.out]; exact hlt)
      clear hst hx hsrc hrd
      go_wp2_with (first
        | (go_at_call 46; refine (load_any (l.drop (j * size)) _ _ _ _ size _ Hld.out hd (by omega) hs8 hs1).mono ?_; rintro e w' ⟨rfl, rfl⟩))
      go_roundw
      case rel => exact ⟨j + 1, by omega, by go_num, hstep⟩
      case measure => simp [intOf]; omega
    · go_wp2
      go_ret2
      obtain rfl : j = m := by omega
      have hb := hst.1
      rw [← HT.out, partly_all] at hb
      refine ⟨_, rfl, ?_, hbel.trans (below_of_only hst.2 hbel.size (Nat.le_refl _))⟩
      rw [HT.out]
      exact hb.own j (by rw [length_numsV, HT.out]) (Nat.le_refl _) (by simp only [maxLen]; omega)

theorem take_long (A : Option Addr) (n c size : Nat) (w : World) (hs8 : size ≤ 8) (hs1 : 1 ≤ size) (hm : (n : Int) % (size : Int) = 0) (h4 : 4096 < n) :
    Calls Try.prog 42 #[.int .i64 size, .slice A n c] w fun e w' => e = .returned (.tuple #[.slice none 0 0, .int .i64 4]) ∧ w = w' := by
  go_enter Try.func42, Try.ntmps42
  go_wp2_with (go_at_call 43; refine (isSize_true _ _ (by omega) (by omega)).mono ?_; rintro e w' ⟨rfl, rfl⟩)
  go_ret2
  exact ⟨rfl, rfl⟩
theorem take_parts (A : Option Addr) (n c size : Nat) (w : World) (hs8 : size ≤ 8) (hs1 : 1 ≤ size) (hm : ((n : Int) % (size : Int) != 0) = true) :
    Calls Try.prog 42 #[.int .i64 size, .slice A n c] w fun e w' => e = .returned (.tuple #[.slice none 0 0, .int .i64 1]) ∧ w = w' := by
  go_enter Try.func42, Try.ntmps42
  go_wp2_with (go_at_call 43; refine (isSize_true _ _ (by omega) (by omega)).mono ?_; rintro e w' ⟨rfl, rfl⟩)
  go_ret2
  exact ⟨rfl, rfl⟩
theorem take_arg (A : Option Addr) (n c : Nat) (size : Int) (w : World) (h : ¬ (1 ≤ size ∧ size ≤ 8)) :
    Calls Try.prog 42 #[.int .i64 size, .slice A n c] w fun e w' => e = .returned (.tuple #[.slice none 0 0, .int .i64 1]) ∧ w = w' := by
  have H := Lib.hid h
  clear h
  go_enter Try.func42, Try.ntmps42
  go_wp2_with (go_at_call 43; refine (isSize_false _ _ H.out).mono ?_; rintro e w' ⟨rfl, rfl⟩)
  go_ret2
  exact ⟨rfl, rfl⟩

def lenIn : Value → Nat
  | .slice _ k _ => k
  | _ => 0
theorem rd_new (w : World) (u : Value) (e : TypeId) : Rd (w.alloc (.cells #[u] e)) (w.heap.size + 1) (some ⟨w.heap.size, 0, none⟩) [u] :=
  .inr ⟨w.heap.size, 0, rfl, Nat.lt_succ_self _, fun i v hv => by
    rw [Nat.zero_add, World.cell?_alloc_at _ _ _ _ rfl]
    simpa using hv⟩

theorem fill_arg (A : Option Addr) (n c : Nat) (size : Int) (w : World) (h : size < 0) :
    Calls Try.prog 28 #[.slice A n c, .int .i64 size] w fun e w' => e = .returned (.tuple #[.slice none 0 0, .int .i64 1]) ∧ w = w' := by
  go_enter Try.func28, Try.ntmps28
  go_wp2
  go_ret2
  exact ⟨rfl, rfl⟩
theorem rfill_arg (A : Option Addr) (n c : Nat) (size : Int) (w : World) (h : size < 0) :
    Calls Try.prog 31 #[.slice A n c, .int .i64 size] w fun e w' => e = .returned (.tuple #[.slice none 0 0, .int .i64 1]) ∧ w = w' := by
  go_enter Try.func31, Try.ntmps31
  go_wp2
  go_ret2
  exact ⟨rfl, rfl⟩
theorem fill_long (A : Option Addr) (n c size : Nat) (w : World) (h : size < n ∨ 4096 < size) :
    Calls Try.prog 28 #[.slice A n c, .int .i64 size] w fun e w' => e = .returned (.tuple #[.slice none 0 0, .int .i64 4]) ∧ w = w' := by
  by_cases h1 : size < n
  · clear h
    go_enter Try.func28, Try.ntmps28
    go_wp2
    go_ret2
    exact ⟨rfl, rfl⟩
  · have h2 : 4096 < size := by omega
    clear h
    go_enter Try.func28, Try.ntmps28
    go_wp2
    go_ret2
    exact ⟨rfl, rfl⟩
theorem rfill_long (A : Option Addr) (n c size : Nat) (w : World) (h : size < n ∨ 4096 < size) :
    Calls Try.prog 31 #[.slice A n c, .int .i64 size] w fun e w' => e = .returned (.tuple #[.slice none 0 0, .int .i64 4]) ∧ w = w' := by
  by_cases h1 : size < n
  · clear h
    go_enter Try.func31, Try.ntmps31
    go_wp2
    go_ret2
    exact ⟨rfl, rfl⟩
  · have h2 : 4096 < size := by omega
    clear h
    go_enter Try.func31, Try.ntmps31
    go_wp2
    go_ret2
    exact ⟨rfl, rfl⟩

theorem fill_ok (l : List UInt8) (A : Option Addr) (n c size : Nat) (w : World) (hn : l.length = n) (hr : Rd w w.heap.size A (bytesV l)) (hs : n ≤ size) (hm : size ≤ 4096) :
    Calls Try.prog 28 #[.slice A n c, .int .i64 size] w fun e w' => ∃ v, e = .returned (.tuple #[v, .int .i64 0]) ∧ Made w (padl l size) v w' := by
  have H := Lib.hid hn
  clear hn
  go_enter Try.func28, Try.ntmps28
  go_wp2_with (go_at_call 39; refine (padded_any l _ _ _ _ _ H.out hr hs (by omega)).mono ?_; rintro e w1 ⟨rfl, hp⟩)
  go_ret2
  have hl : (padl l size).length = size := length_padl l size (by rw [H.out]; exact hs)
  refine ⟨_, rfl, ?_, hp.2⟩
  rw [hl]
  exact hp.1.own size (by rw [length_bytesV, hl]) (Nat.le_refl _) (by simp only [maxLen]; omega)

set_option maxHeartbeats 400000 in
theorem rfill_ok (l : List UInt8) (A : Option Addr) (n c size : Nat) (w : World) (hn : l.length = n) (hr : Rd w w.heap.size A (bytesV l)) (hs : n ≤ size) (hm : size ≤ 4096) :
    Calls Try.prog 31 #[.slice A n c, .int .i64 size] w fun e w' => ∃ v, e = .returned (.tuple #[v, .int .i64 0]) ∧ Made w (padl l size) v w' := by
  have H := Lib.hid hn
  have hlit := World.ownsRow_lit (base := w.heap.size) (e := 5) (size := 1) w #[] 0 (Nat.le_refl _) (Nat.zero_le _) rfl
  have hb0 : Below w.heap.size w (w.alloc (.cells #[] 5)) := (Below.refl _ _).alloc (Nat.le_refl _) _
  clear hn
  go_enter Try.func31, Try.ntmps31
  go_wp2_with (at_builtin; refine wpList_app5 _ rfl (.tmp 17) (.tmp 18) rfl w.heap.size _ 0 [] rfl hlit w.heap.size A n _ l rfl H.out (hr.below hb0) (by omega) hb0.size ?_)
  intro v1 w1 hown1 hg1
  have hb1 : Below w.heap.size w w1 := hb0.grown hg1 hb0.size (fun k hk => (hlit.lt k hk).1)
  obtain ⟨_, A1, c1, rfl, hc1, hm1, _⟩ := own_rd hown1
  clear hg1 hlit hb0
  go_wp2
  go_loopw [6] (fun v wr => ∃ (j : Nat) (A2 : Option Addr) (c2 : Nat), n ≤ j ∧ j ≤ size ∧ v = .slice A2 j c2 ∧ wr.ownsRow w.heap.size 5 1 v j (bytesV (l ++ List.replicate (j - n) 0)) ∧ Below w.heap.size w wr) (fun v _ => size - lenIn v)
  case atStart => exact ⟨n, A1, c1, Nat.le_refl _, hs, rfl, by simpa using hown1, hb1⟩
  case round =>
    obtain ⟨j, A2, c2, hnj, hj, rfl, hown, hbe⟩ := hrel
    have hsz := hbe.size
    by_cases hlt : j < size
    · have hown0 := hown.alloc (.cells #[.int .u8 0] 5)
      go_wp2_with (at_builtin; refine wpList_app5 _ rfl (.tmp 24) (.tmp 25) rfl w.heap.size _ j _ rfl hown0 (wr.heap.size + 1) _ 1 1 [0] rfl rfl (rd_new _ _ _) (by omega) (by simp; omega) ?_)
      intro v3 w3 hown3 hg3
      have hbe3 : Below w.heap.size w w3 := (hbe.alloc hsz _).grown hg3 (by simp; omega) (fun k hk => (hown0.lt k hk).1)
      obtain ⟨_, A3, c3, rfl, _, _, _⟩ := own_rd hown3
      clear hown hown0 hg3
      go_wp2
      go_roundw
      case rel =>
        refine ⟨j + 1, A3, c3, by omega, by omega, rfl, ?_, hbe3⟩
        have e : l ++ List.replicate (j + 1 - n) 0 = l ++ List.replicate (j - n) 0 ++ [(0 : UInt8)] := by
          rw [show j + 1 - n = (j - n) + 1 by omega, List.replicate_succ', List.append_assoc]
        rw [e]
        simpa [List.append_assoc] using hown3
      case measure => simp [lenIn]; omega
    · go_wp2
      go_ret2
      obtain rfl : j = size := by omega
      have hl : (padl l j).length = j := length_padl l j (by rw [H.out]; exact hs)
      refine ⟨_, rfl, ?_, hbe⟩
      rw [hl, padl, H.out]
      exact hown

end Go.Proofs.Ytahpdnfnaimbnaa
