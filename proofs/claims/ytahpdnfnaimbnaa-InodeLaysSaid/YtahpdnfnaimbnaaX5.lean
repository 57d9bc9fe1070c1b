/-
  Ints as two bytes each, and back: package inode's pack and unpack, the document's two.
-/
import Derived.Test.YtahpdnfnaimbnaaX0
namespace Go.Proofs.Ytahpdnfnaimbnaa.Inode
open Go.RowKit

theorem lay2 (L : List Nat) (A : Option Addr) (n c : Nat) (w : World) (hn : L.length = n) (hr : Rd w w.heap.size A (numsV L)) (hL : ∀ x ∈ L, x < 65536) (hm : n ≤ 2000) :
    Calls Try.prog 40 #[.int .i64 2, .slice A n c] w fun e w' => ∃ v, e = .returned (.tuple #[v, .int .i64 0]) ∧ Made w (layl 2 L) v w' :=
  lay_ok L A n c 2 w hn hr (by omega) (by omega) (fun x hx => Nat.lt_trans (hL x hx) (by decide)) (fit2 hL) (by omega)

set_option maxHeartbeats 800000 in
theorem pack_any (L : List Int) (A : Option Addr) (n c : Nat) (w : World) (hn : L.length = n) (hr : Rd w w.heap.size A (intsV L)) (hL : ∀ x ∈ L, 0 ≤ x ∧ x < 65536) (hm : n ≤ 2000) :
    Calls Try.prog 29 #[.slice A n c] w fun e w' => ∃ v, e = .returned v ∧ Made w (layl 2 (L.map Int.toNat)) v w' := by
  have hT : (L.map Int.toNat).length = n := by rw [List.length_map, hn]
  have hsm := nat_small hL
  have hmk := make_nums n (by omega)
  have hbk := Bk.new w 48 (numsV (List.replicate n 0))
  have hbel : Below w.heap.size w (w.alloc (.cells (numsV (List.replicate n 0)).toArray 48)) := alloc_below _ _
  have hsrc := hr.below hbel
  obtain ⟨z, hz⟩ : ∃ z, z = (numsV (List.replicate n 0)).toArray := ⟨_, rfl⟩
  unfold Bk at hbk
  rw [← hz] at hmk hbk hbel hsrc
  have hlay : Taking (w.alloc (.cells z 48)) w.heap.size (L.map Int.toNat) 0 (w.alloc (.cells z 48)) := ⟨by unfold Bk; rw [partly_zero, hT, hbk, hz], World.grownBy.refl _ _⟩
  have Hn := Lib.hid hn
  have HT := Lib.hid hT
  have HL := Lib.hid hL
  have HS := Lib.hid hsm
  have Hsrc := Lib.hid hsrc
  have HB := Lib.hid hbel
  have hsz : (w.alloc (.cells z 48)).heap.size = w.heap.size + 1 := by simp
  have HZ := Lib.hid hsz
  clear hn hT hbk hz hr hL hsm hsrc hbel hsz
  go_enter Try.func29, Try.ntmps29
  go_wp2
  go_loopw [13] (fun k wr => ∃ j : Nat, j ≤ n ∧ k = .int .i64 j ∧ Taking (w.alloc (.cells z 48)) w.heap.size (L.map Int.toNat) j wr) (fun k _ => n - (intOf k).toNat)
  case atStart => exact ⟨0, Nat.zero_le _, rfl, hlay⟩
  case round =>
    obtain ⟨j, hj, rfl, hst⟩ := hrel
    clear hlay hmk
    by_cases hlt : j < n
    · obtain ⟨x, hx⟩ : ∃ x, L[j]? = some x := ⟨_, List.getElem?_eq_getElem (by rw [Hn.out]; exact hlt)⟩
      obtain ⟨hx0, hx6⟩ := HL.out x (List.mem_of_getElem? hx)
      obtain ⟨m, rfl⟩ : ∃ m : Nat, x = (m : Int) := ⟨x.toNat, by omega⟩
      rcases rd_ints (rd_grown Hsrc.out hst.2 (by simp) (Nat.le_refl _)) with h | ⟨b, o, rfl, hb, hc⟩
      · subst h; simp at hx
      have c0 := hc j _ hx
      have hTx : (L.map Int.toNat)[j]? = some m := by rw [List.getElem?_map, hx]; simp
      have hstep := Lib.hid (taking_step hst hTx)
      obtain ⟨⟨v, hcell⟩, hfr⟩ := taking_cell hst (by rw [HT.out]; exact hlt)
      have e1 : IntKind.u64.wrap (m : Int) = (m : Int) := by rw [IntKind.wrap_u64]; omega
      have hj0 : (0 : Int) ≤ (j : Int) := Int.natCast_nonneg _
      have hjn : (j : Int) < (n : Int) := by omega
      clear hst hx hTx hc
      go_wp2
      go_roundw
      case rel => exact ⟨j + 1, by omega, by go_num, hstep.out⟩
      case measure => simp [intOf]; omega
    · obtain rfl : j = n := by omega
      have hb := hst.1
      rw [show partly (L.map Int.toNat) j = L.map Int.toNat by have := partly_all (L.map Int.toNat); rwa [HT.out] at this] at hb
      have HBw := Lib.hid (HB.out.trans (below_of_only hst.2 HB.out.size (Nat.le_refl _)))
      have HR := Lib.hid (show Rd wr wr.heap.size (some ⟨w.heap.size, 0, none⟩) (numsV (L.map Int.toNat)) by
        have := hb.rd (numsV (L.map Int.toNat)).length 0
        rwa [List.drop_zero, List.take_length] at this)
      clear hst hb
      go_wp2_with (go_at_call 40; (with_reducible refine (lay2 (L.map Int.toNat) _ j j _ HT.out HR.out HS.out hm).mono ?_); rintro e w4 ⟨v4, he, hm4⟩; obtain rfl := he; have HM := Lib.hid hm4; clear hm4)
      go_ret
      exact ⟨_, rfl, own_mono HM.out.1 HBw.out.size, HBw.out.trans (HM.out.2.mono HBw.out.size)⟩

def MadeI (w : World) (l : List Int) (v : Value) (w' : World) : Prop := w'.ownsRow w.heap.size 3 1 v l.length (intsV l) ∧ Below w.heap.size w w'
theorem info3 : (Try.prog.info? 3).map (fun i => (i.zero, i.size, i.bytes)) = some (some (.int .i64 0), 1, 8) := by kernel_rfl
theorem make_ints (n : Nat) (h : n ≤ 65536) (u : World) : (Instr.makeSlice 33 (.int .i64 (n : Int)) (.int .i64 (n : Int))).run Try.prog u =
    .ok (.slice (some ⟨u.heap.size, 0, none⟩) n n) (u.alloc (.cells (intsV (List.replicate n 0)).toArray 3)) := by
  obtain ⟨i0, hi, hz0, hz1, hz2⟩ := info_parts info3
  have hr := run_make (P := Try.prog) u 33 3 i0 (.int .i64 0) Try.underlying33 hi hz0 .i64 .i64 (n : Int) (n : Int) (by omega) (Int.le_refl _) (by rw [hz2]; omega) (by omega)
  have e : (madeCells (Value.int .i64 0).cells (n * i0.size)) = (intsV (List.replicate n 0)).toArray := by
    rw [hz1, Nat.mul_one]
    apply Array.ext
    · simp [madeCells, intsV, Value.cells]
    · intro j h1 h2
      simp [madeCells, intsV, Value.cells, Nat.mod_one]
  rw [Int.toNat_natCast, e] at hr
  exact hr
/-- Of ints that are being filled in. -/
def partI (T : List Int) (j : Nat) : List Int := T.take j ++ List.replicate (T.length - j) 0
theorem partI_all (T : List Int) : partI T T.length = T := by simp [partI]
theorem partI_zero (T : List Int) : partI T 0 = List.replicate T.length 0 := by simp [partI]
theorem length_partI (T : List Int) (j : Nat) (h : j ≤ T.length) : (partI T j).length = T.length := by simp [partI]; omega
theorem partI_step (T : List Int) (j : Nat) (x : Int) (h : T[j]? = some x) : (partI T j).set j x = partI T (j + 1) := by
  obtain ⟨hj, rfl⟩ := List.getElem?_eq_some_iff.1 h
  unfold partI
  have hl : (T.take j).length = j := by simp; omega
  rw [List.set_append_right _ _ (by omega), hl, Nat.sub_self, show T.length - j = (T.length - (j + 1)) + 1 by omega, List.replicate_succ, List.set_cons_zero, List.take_succ_eq_append_getElem hj, List.append_assoc]
  rfl
def TakingI (w : World) (g : Nat) (T : List Int) (j : Nat) (wr : World) : Prop := Bk wr g 3 (intsV (partI T j)) ∧ w.grownBy wr (some g)
theorem takingI_step {w wr : World} {g : Nat} {T : List Int} {j : Nat} {x : Int} (h : TakingI w g T j wr) (hx : T[j]? = some x) : TakingI w g T (j + 1) (wr.setCell ⟨g, j, none⟩ (.int .i64 x)) := by
  refine ⟨?_, only_set h.2 _ _⟩
  have := h.1.set j (.int .i64 x)
  rw [intsV_set, partI_step T j x hx] at this
  exact this
theorem takingI_cell {w wr : World} {g : Nat} {T : List Int} {j : Nat} (h : TakingI w g T j wr) (hj : j < T.length) : (∃ v, wr.cell? ⟨g, j, none⟩ = some v) ∧ wr.frozen? ⟨g, j, none⟩ = false := by
  refine ⟨?_, h.1.frozen _⟩
  rw [h.1.cell]
  have hl : j < (intsV (partI T j)).length := by rw [length_intsV, length_partI _ _ (by omega)]; exact hj
  exact ⟨_, List.getElem?_eq_getElem hl⟩
theorem rd_nums {w : World} {B : Nat} {A : Option Addr} {l : List Nat} (h : Rd w B A (numsV l)) : l = [] ∨ ∃ b o, A = some ⟨b, o, none⟩ ∧ b < B ∧ ∀ (i : Nat) x, l[i]? = some x → w.cell? ⟨b, o + i, none⟩ = some (.int .u64 (x : Int)) := by
  rcases h with h | ⟨b, o, h1, h2, h3⟩
  · exact .inl (by simpa [numsV] using h)
  · exact .inr ⟨b, o, h1, h2, fun i x hx => h3 i _ (by simp [numsV, numV, hx])⟩

theorem take2 (l : List UInt8) (A : Option Addr) (n c m : Nat) (w : World) (hn : l.length = n) (hr : Rd w w.heap.size A (bytesV l)) (hc : n ≤ c) (hm : n = m * 2) (h4 : m ≤ 2000) :
    Calls Try.prog 42 #[.int .i64 2, .slice A n c] w fun e w' => ∃ v, e = .returned (.tuple #[v, .int .i64 0]) ∧ MadeN w (takel 2 l) v w' :=
  take_ok l A n c m 2 w hn hr hc (by omega) (by omega) hm (by omega)

set_option maxHeartbeats 800000 in
theorem unpack_any (l : List UInt8) (A : Option Addr) (n c m : Nat) (w : World) (hn : l.length = n) (hr : Rd w w.heap.size A (bytesV l)) (hc : n ≤ c) (hm : n = m * 2) (h4 : m ≤ 2000) :
    Calls Try.prog 35 #[.slice A n c] w fun e w' => ∃ v, e = .returned v ∧ MadeI w (ptrs l) v w' := by
  have hT : (takel 2 l).length = m := by rw [length_takel, hn, hm]; omega
  have hP : (ptrs l).length = m := by rw [length_ptrs, hn, hm]; omega
  have Hn := Lib.hid hn
  have HT := Lib.hid hT
  have HP := Lib.hid hP
  have HS := Lib.hid (takel_small l)
  have hmk := make_ints m (by omega)
  have Hr := Lib.hid hr
  have Hm := Lib.hid hm
  clear hn hT hP hr hm
  go_enter Try.func35, Try.ntmps35
  go_wp2_with fail
  refine (take2 l A n c m _ Hn.out Hr.out hc Hm.out h4).mono ?_
  rintro e w1 ⟨v1, he, hown1, hb1⟩
  obtain rfl := he
  rw [HT.out] at hown1
  obtain ⟨_, A1, c1, hv1, hc1, hx1, hr1⟩ := own_rd hown1
  subst hv1
  have HR1 := Lib.hid hr1
  have HB1 := Lib.hid hb1
  clear hown1 hb1 hr1
  go_wp2
  have hbk := Bk.new w1 3 (intsV (List.replicate m 0))
  have hbel : Below w1.heap.size w1 (w1.alloc (.cells (intsV (List.replicate m 0)).toArray 3)) := alloc_below _ _
  have hsrc := HR1.out.below hbel
  have hlay : TakingI (w1.alloc (.cells (intsV (List.replicate m 0)).toArray 3)) w1.heap.size (ptrs l) 0 (w1.alloc (.cells (intsV (List.replicate m 0)).toArray 3)) := ⟨by rw [partI_zero, HP.out]; exact hbk, World.grownBy.refl _ _⟩
  generalize hW : w1.alloc (.cells (intsV (List.replicate m 0)).toArray 3) = W at *
  have hsz : W.heap.size = w1.heap.size + 1 := by rw [← hW]; simp
  have Hsrc := Lib.hid hsrc
  have HB := Lib.hid hbel
  have HZ := Lib.hid hsz
  clear hbk hbel hsrc hW hmk hsz
  go_loopw [18] (fun k wr => ∃ j : Nat, j ≤ m ∧ k = .int .i64 j ∧ TakingI W w1.heap.size (ptrs l) j wr) (fun k _ => m - (intOf k).toNat)
  case atStart => exact ⟨0, Nat.zero_le _, rfl, hlay⟩
  case round =>
    obtain ⟨j, hj, rfl, hst⟩ := hrel
    clear hlay
    by_cases hlt : j < m
    · obtain ⟨x, hx⟩ : ∃ x, (takel 2 l)[j]? = some x := ⟨_, List.getElem?_eq_getElem (by rw [HT.out]; exact hlt)⟩
      have hx6 := HS.out x (List.mem_of_getElem? hx)
      rcases rd_nums (rd_grown Hsrc.out hst.2 (by have := HZ.out; omega) (Nat.le_refl _)) with h | ⟨b, o, rfl, hb, hc1⟩
      · rw [h] at hx; simp at hx
      have c0 := hc1 j _ hx
      have hTx : (ptrs l)[j]? = some (x : Int) := by unfold ptrs; rw [List.getElem?_map, hx]; rfl
      have hstep := Lib.hid (takingI_step hst hTx)
      obtain ⟨⟨v, hcell⟩, hfr⟩ := takingI_cell hst (by rw [HP.out]; exact hlt)
      have e1 : IntKind.i64.wrap (x : Int) = (x : Int) := by rw [IntKind.wrap_i64]; omega
      have hj0 : (0 : Int) ≤ (j : Int) := Int.natCast_nonneg _
      have hjn : (j : Int) < (m : Int) := by omega
      clear hst hx hTx hc1
      go_wp2
      go_roundw
      case rel => exact ⟨j + 1, by omega, by go_num, hstep.out⟩
      case measure => simp [intOf]; omega
    · obtain rfl : j = m := by omega
      have hb := hst.1
      rw [show partI (ptrs l) j = ptrs l by have := partI_all (ptrs l); rwa [HP.out] at this] at hb
      have HBw := Lib.hid (HB1.out.trans ((HB.out.trans (below_of_only hst.2 HB.out.size (Nat.le_refl _))).mono HB1.out.size))
      have HO := Lib.hid (hb.own (base := w.heap.size) j (by rw [length_intsV, HP.out]) HB1.out.size (by simp only [maxLen]; omega))
      clear hst hb
      go_wp2
      go_ret
      exact ⟨_, rfl, by rw [HP.out]; exact HO.out, HBw.out⟩

/-- A number of two bytes. -/
theorem num2 (n : Nat) (w : World) (hn : n < 65536) :
    Calls Try.prog 41 #[.int .u64 (n : Int), .int .i64 2] w fun e w' => ∃ A c, e = .returned (.slice A 2 c) ∧ 2 ≤ c ∧ Rd w' w'.heap.size A (bytesV (digs n 2)) ∧ Below w.heap.size w w' := by
  refine (num_any n 2 w (by omega) (by omega)).mono ?_
  rintro e w' ⟨v, rfl, hown, hb⟩
  obtain ⟨_, A, c, rfl, hc, _, hr⟩ := own_rd hown
  exact ⟨A, c, rfl, hc, hr, hb⟩
theorem two_step {L : List Int} {j : Nat} {m : Nat} (h : L[j]? = some (m : Int)) : layl 2 ((L.take (j + 1)).map Int.toNat) = layl 2 ((L.take j).map Int.toNat) ++ digs m 2 := by
  obtain ⟨hj, e⟩ := List.getElem?_eq_some_iff.1 h
  rw [List.take_succ_eq_append_getElem hj, e, List.map_append, layl_append]
  simp [layl]

set_option maxHeartbeats 800000 in
theorem two_any (L : List Int) (A : Option Addr) (n c : Nat) (w : World) (hn : L.length = n) (hr : Rd w w.heap.size A (intsV L)) (hL : ∀ x ∈ L, 0 ≤ x ∧ x < 65536) (hm : n ≤ 2000) :
    Calls Try.prog 30 #[.slice A n c] w fun e w' => ∃ v, e = .returned v ∧ Made w (layl 2 (L.map Int.toNat)) v w' := by
  have Hn := Lib.hid hn
  have HL := Lib.hid hL
  have Hr := Lib.hid hr
  clear hn hr hL
  go_enter Try.func30, Try.ntmps30
  go_wp2
  go_loopw [3, 4] (fun v i wr => ∃ j : Nat, j ≤ n ∧ i = .int .i64 (j : Int) ∧ wr.ownsRow w.heap.size 5 1 v (j * 2) (bytesV (layl 2 ((L.take j).map Int.toNat))) ∧ Below w.heap.size w wr) (fun _ i _ => n - (intOf i).toNat)
  case atStart => exact ⟨0, Nat.zero_le _, rfl, World.ownsRow_nil _ _ _ _, Below.refl _ _⟩
  case round =>
    obtain ⟨j, hj, rfl, hown, hbel⟩ := hrel
    by_cases hlt : j < n
    · obtain ⟨x, hx⟩ : ∃ x, L[j]? = some x := ⟨_, List.getElem?_eq_getElem (by rw [Hn.out]; exact hlt)⟩
      obtain ⟨hx0, hx6⟩ := HL.out x (List.mem_of_getElem? hx)
      obtain ⟨m, rfl⟩ : ∃ m : Nat, x = (m : Int) := ⟨x.toNat, by omega⟩
      rcases rd_ints (Hr.out.below hbel) with h | ⟨b, o, rfl, hb, hc⟩
      · subst h; simp at hx
      have c0 := hc j _ hx
      have HW := Lib.hid (two_step hx)
      have e1 : IntKind.u64.wrap (m : Int) = (m : Int) := by rw [IntKind.wrap_u64]; omega
      have hsz := hbel.size
      have HO := Lib.hid hown
      have HB := Lib.hid hbel
      have hj0 : (0 : Int) ≤ (j : Int) := Int.natCast_nonneg _
      have hjn : (j : Int) < (n : Int) := by omega
      clear hx hown hbel hc
      go_wp2_with (first
        | (go_at_call 41; (with_reducible refine (num2 m _ (by omega)).mono ?_); rintro e w3 ⟨A3, k3, he, _, hr3, hb3⟩; obtain rfl := he; have HR3 := Lib.hid hr3; have HO3 := Lib.hid (own_below HO.out hb3); have HB3 := Lib.hid (HB.out.trans (hb3.mono HB.out.size)); clear hr3 hb3)
        | (at_builtin; refine wpList_app5 _ rfl (.tmp 11) (.tmp 17) rfl w.heap.size _ (j * 2) (layl 2 ((L.take j).map Int.toNat)) rfl HO3.out _ _ 2 _ (digs m 2) rfl (length_digs _ _) HR3.out (by omega) HB3.out.size ?_; intro v4 w4 hown4 hg4; have HO4 := Lib.hid (show w4.ownsRow w.heap.size 5 1 v4 ((j + 1) * 2) (bytesV (layl 2 ((L.take (j + 1)).map Int.toNat))) by (rw [HW.out, Nat.add_mul]; exact hown4)); have HB4 := Lib.hid (HB3.out.grown hg4 HB3.out.size (fun k hk => (HO3.out.lt k hk).1)); clear hown4 hg4))
      go_roundw
      case rel => exact ⟨j + 1, by omega, by go_num, HO4.out, HB4.out⟩
      case measure => simp [intOf]; omega
    · obtain rfl : j = n := by omega
      have e : L.take j = L := List.take_of_length_le (by rw [Hn.out]; exact Nat.le_refl _)
      rw [e] at hown
      have HO := Lib.hid hown
      have HB := Lib.hid hbel
      clear hown hbel
      go_wp2
      go_ret
      exact ⟨_, rfl, by rw [length_layl, List.length_map, Hn.out]; exact HO.out, HB.out⟩
end Go.Proofs.Ytahpdnfnaimbnaa.Inode
