/-
  Ints as two bytes each, and back: package inode's pack and unpack, the document's two.
-/
import Derived.Test.YtcjkbmmjpkghlaaGreatQInodeA
import Derived.Deep.RegionHeld3
namespace Go.Proofs.YtcjkbmmjpkghlaaGreat.Inode
open Go.RowKit

theorem lay2 (L : List Nat) (A : Option Addr) (n c : Nat) (w : World) (hn : L.length = n) (hr : Rd w w.heap.size A (numsV L)) (hL : ∀ x ∈ L, x < 65536) (hm : n ≤ 2000) :
    Calls Tryz.prog 154 #[.int .i64 2, .slice A n c] w fun e w' => ∃ v, e = .returned (.tuple #[v, .int .i64 0]) ∧ Made w (layl 2 L) v w' :=
  lay_ok L A n c 2 w hn hr (by omega) (by omega) (fun x hx => Nat.lt_trans (hL x hx) (by decide)) (fit2 hL) (by omega)

set_option maxHeartbeats 800000 in
theorem pack_any (L : List Int) (A : Option Addr) (n c : Nat) (w : World) (hn : L.length = n) (hr : Rd w w.heap.size A (intsV L)) (hL : ∀ x ∈ L, 0 ≤ x ∧ x < 65536) (hm : n ≤ 2000) :
    Calls Tryz.prog 200 #[.slice A n c] w fun e w' => ∃ v, e = .returned v ∧ Made w (layl 2 (L.map Int.toNat)) v w' := by
  have hT : (L.map Int.toNat).length = n := by rw [List.length_map, hn]
  have hsm := nat_small hL
  have hmk := make_nums n (by omega)
  have hbk := Bk.new w 41 (numsV (List.replicate n 0))
  have hbel : Below w.heap.size w (w.alloc (.cells (numsV (List.replicate n 0)).toArray 41)) := alloc_below _ _
  have hsrc := hr.below hbel
  obtain ⟨z, hz⟩ : ∃ z, z = (numsV (List.replicate n 0)).toArray := ⟨_, rfl⟩
  unfold Bk at hbk
  rw [← hz] at hmk hbk hbel hsrc
  have hlay : Taking (w.alloc (.cells z 41)) w.heap.size (L.map Int.toNat) 0 (w.alloc (.cells z 41)) := ⟨by unfold Bk; rw [partly_zero, hT, hbk, hz], World.grownBy.refl _ _⟩
  have Hn := Lib.hid hn
  have HT := Lib.hid hT
  have HL := Lib.hid hL
  have HS := Lib.hid hsm
  have Hsrc := Lib.hid hsrc
  have HB := Lib.hid hbel
  have hsz : (w.alloc (.cells z 41)).heap.size = w.heap.size + 1 := by simp
  have HZ := Lib.hid hsz
  clear hn hT hbk hz hr hL hsm hsrc hbel hsz
  go_enter Tryz.func200, Tryz.ntmps200
  go_wp2
  go_loopw [13] (fun k wr => ∃ j : Nat, j ≤ n ∧ k = .int .i64 j ∧ Taking (w.alloc (.cells z 41)) w.heap.size (L.map Int.toNat) j wr) (fun k _ => n - (intOf k).toNat)
  case atStart => exact ⟨0, Nat.zero_le _, rfl, hlay⟩
  case round =>
    obtain ⟨j, hj, rfl, hst⟩ := hrel
    clear hlay hmk
    by_cases hlt : j < n
    · obtain ⟨x, hx⟩ : ∃ x, L[j]? = some x := ⟨_, List.getElem?_eq_getElem (by rw [Hn.out]; exact hlt)⟩
      obtain ⟨hx0, hx6⟩ := HL.out x (List.mem_of_getElem? hx)
      obtain ⟨m, rfl⟩ : ∃ m : Nat, x = (m : Int) := ⟨x.toNat, by omega⟩
      rcases rd_ints (rd_grown Hsrc.out hst.2 (by simp) (Nat.le_refl _)) with h | ⟨b, o, rfl, hb, hc⟩
      · subst h; simp at hx
      have c0 := hc j _ hx
      have hTx : (L.map Int.toNat)[j]? = some m := by rw [List.getElem?_map, hx]; simp
      have hstep := Lib.hid (taking_step hst hTx)
      obtain ⟨⟨v, hcell⟩, hfr⟩ := taking_cell hst (by rw [HT.out]; exact hlt)
      have e1 : IntKind.u64.wrap (m : Int) = (m : Int) := by rw [IntKind.wrap_u64]; omega
      have hj0 : (0 : Int) ≤ (j : Int) := Int.natCast_nonneg _
      have hjn : (j : Int) < (n : Int) := by omega
      clear hst hx hTx hc
      go_wp2
      go_roundw
      case rel => exact ⟨j + 1, by omega, by go_num, hstep.out⟩
      case measure => simp [intOf]; omega
    · obtain rfl : j = n := by omega
      have hb := hst.1
      rw [show partly (L.map Int.toNat) j = L.map Int.toNat by have := partly_all (L.map Int.toNat); rwa [HT.out] at this] at hb
      have HBw := Lib.hid (HB.out.trans (below_of_only hst.2 HB.out.size (Nat.le_refl _)))
      have HR := Lib.hid (show Rd wr wr.heap.size (some ⟨w.heap.size, 0, none⟩) (numsV (L.map Int.toNat)) by
        have := hb.rd (numsV (L.map Int.toNat)).length 0
        rwa [List.drop_zero, List.take_length] at this)
      clear hst hb
      go_wp2_with (go_at_call 154; (with_reducible refine (lay2 (L.map Int.toNat) _ j j _ HT.out HR.out HS.out hm).mono ?_); rintro e w4 ⟨v4, he, hm4⟩; obtain rfl := he; have HM := Lib.hid hm4; clear hm4)
      go_ret
      exact ⟨_, rfl, own_mono HM.out.1 HBw.out.size, HBw.out.trans (HM.out.2.mono HBw.out.size)⟩

def MadeI (w : World) (l : List Int) (v : Value) (w' : World) : Prop := w'.ownsRow w.heap.size 3 1 v l.length (intsV l) ∧ Below w.heap.size w w'
theorem info3 : (Tryz.prog.info? 3).map (fun i => (i.zero, i.size, i.bytes)) = some (some (.int .i64 0), 1, 8) := by kernel_rfl
theorem make_ints (n : Nat) (h : n ≤ 65536) (u : World) : (Instr.makeSlice 57 (.int .i64 (n : Int)) (.int .i64 (n : Int))).run Tryz.prog u =
    .ok (.slice (some ⟨u.heap.size, 0, none⟩) n n) (u.alloc (.cells (intsV (List.replicate n 0)).toArray 3)) := by
  obtain ⟨i0, hi, hz0, hz1, hz2⟩ := info_parts info3
  have hr := run_make (P := Tryz.prog) u 57 3 i0 (.int .i64 0) Tryz.underlying57 hi hz0 .i64 .i64 (n : Int) (n : Int) (by omega) (Int.le_refl _) (by rw [hz2]; omega) (by omega)
  have e : (madeCells (Value.int .i64 0).cells (n * i0.size)) = (intsV (List.replicate n 0)).toArray := by
    rw [hz1, Nat.mul_one]
    apply Array.ext
    · simp [madeCells, intsV, Value.cells]
    · intro j h1 h2
      simp [madeCells, intsV, Value.cells, Nat.mod_one]
  rw [Int.toNat_natCast, e] at hr
  exact hr
/-- Of ints that are being filled in. -/
def partI (T : List Int) (j : Nat) : List Int := T.take j ++ List.replicate (T.length - j) 0
theorem partI_all (T : List Int) : partI T T.length = T := by simp [partI]
theorem partI_zero (T : List Int) : partI T 0 = List.replicate T.length 0 := by simp [partI]
theorem length_partI (T : List Int) (j : Nat) (h : j ≤ T.length) : (partI T j).length = T.length := by simp [partI]; omega
theorem partI_step (T : List Int) (j : Nat) (x : Int) (h : T[j]? = some x) : (partI T j).set j x = partI T (j + 1) := by
  obtain ⟨hj, rfl⟩ := List.getElem?_eq_some_iff.1 h
  unfold partI
  have hl : (T.take j).length = j := by simp; omega
  rw [List.set_append_right _ _ (by omega), hl, Nat.sub_self, show T.length - j = (T.length - (j + 1)) + 1 by omega, List.replicate_succ, List.set_cons_zero, List.take_succ_eq_append_getElem hj, List.append_assoc]
  rfl
def TakingI (w : World) (g : Nat) (T : List Int) (j : Nat) (wr : World) : Prop := Bk wr g 3 (intsV (partI T j)) ∧ w.grownBy wr (some g)
theorem takingI_step {w wr : World} {g : Nat} {T : List Int} {j : Nat} {x : Int} (h : TakingI w g T j wr) (hx : T[j]? = some x) : TakingI w g T (j + 1) (wr.setCell ⟨g, j, none⟩ (.int .i64 x)) := by
  refine ⟨?_, only_set h.2 _ _⟩
  have := h.1.set j (.int .i64 x)
  rw [intsV_set, partI_step T j x hx] at this
  exact this
theorem takingI_cell {w wr : World} {g : Nat} {T : List Int} {j : Nat} (h : TakingI w g T j wr) (hj : j < T.length) : (∃ v, wr.cell? ⟨g, j, none⟩ = some v) ∧ wr.frozen? ⟨g, j, none⟩ = false := by
  refine ⟨?_, h.1.frozen _⟩
  rw [h.1.cell]
  have hl : j < (intsV (partI T j)).length := by rw [length_intsV, length_partI _ _ (by omega)]; exact hj
  exact ⟨_, List.getElem?_eq_getElem hl⟩
theorem rd_nums {w : World} {B : Nat} {A : Option Addr} {l : List Nat} (h : Rd w B A (numsV l)) : l = [] ∨ ∃ b o, A = some ⟨b, o, none⟩ ∧ b < B ∧ ∀ (i : Nat) x, l[i]? = some x → w.cell? ⟨b, o + i, none⟩ = some (.int .u64 (x : Int)) := by
  rcases h with h | ⟨b, o, h1, h2, h3⟩
  · exact .inl (by simpa [numsV] using h)
  · exact .inr ⟨b, o, h1, h2, fun i x hx => h3 i _ (by simp [numsV, numV, hx])⟩

theorem take2 (l : List UInt8) (A : Option Addr) (n c m : Nat) (w : World) (hn : l.length = n) (hr : Rd w w.heap.size A (bytesV l)) (hc : n ≤ c) (hm : n = m * 2) (h4 : m ≤ 2000) :
    Calls Tryz.prog 175 #[.int .i64 2, .slice A n c] w fun e w' => ∃ v, e = .returned (.tuple #[v, .int .i64 0]) ∧ MadeN w (takel 2 l) v w' :=
  take_ok l A n c m 2 w hn hr hc (by omega) (by omega) hm (by omega)

set_option maxHeartbeats 800000 in
theorem unpack_any (l : List UInt8) (A : Option Addr) (n c m : Nat) (w : World) (hn : l.length = n) (hr : Rd w w.heap.size A (bytesV l)) (hc : n ≤ c) (hm : n = m * 2) (h4 : m ≤ 2000) :
    Calls Tryz.prog 211 #[.slice A n c] w fun e w' => ∃ v, e = .returned v ∧ MadeI w (ptrs l) v w' := by
  have hT : (takel 2 l).length = m := by rw [length_takel, hn, hm]; omega
  have hP : (ptrs l).length = m := by rw [length_ptrs, hn, hm]; omega
  have Hn := Lib.hid hn
  have HT := Lib.hid hT
  have HP := Lib.hid hP
  have HS := Lib.hid (takel_small l)
  have hmk := make_ints m (by omega)
  have Hr := Lib.hid hr
  have Hm := Lib.hid hm
  clear hn hT hP hr hm
  go_enter Tryz.func211, Tryz.ntmps211
  go_wp2_with fail
  refine (take2 l A n c m _ Hn.out Hr.out hc Hm.out h4).mono ?_
  rintro e w1 ⟨v1, he, hown1, hb1⟩
  obtain rfl := he
  rw [HT.out] at hown1
  obtain ⟨_, A1, c1, hv1, hc1, hx1, hr1⟩ := own_rd hown1
  subst hv1
  have HR1 := Lib.hid hr1
  have HB1 := Lib.hid hb1
  clear hown1 hb1 hr1
  go_wp2
  have hbk := Bk.new w1 3 (intsV (List.replicate m 0))
  have hbel : Below w1.heap.size w1 (w1.alloc (.cells (intsV (List.replicate m 0)).toArray 3)) := alloc_below _ _
  have hsrc := HR1.out.below hbel
  have hlay : TakingI (w1.alloc (.cells (intsV (List.replicate m 0)).toArray 3)) w1.heap.size (ptrs l) 0 (w1.alloc (.cells (intsV (List.replicate m 0)).toArray 3)) := ⟨by rw [partI_zero, HP.out]; exact hbk, World.grownBy.refl _ _⟩
  generalize hW : w1.alloc (.cells (intsV (List.replicate m 0)).toArray 3) = W at *
  have hsz : W.heap.size = w1.heap.size + 1 := by rw [← hW]; simp
  have Hsrc := Lib.hid hsrc
  have HB := Lib.hid hbel
  have HZ := Lib.hid hsz
  clear hbk hbel hsrc hW hmk hsz
  go_loopw [18] (fun k wr => ∃ j : Nat, j ≤ m ∧ k = .int .i64 j ∧ TakingI W w1.heap.size (ptrs l) j wr) (fun k _ => m - (intOf k).toNat)
  case atStart => exact ⟨0, Nat.zero_le _, rfl, hlay⟩
  case round =>
    obtain ⟨j, hj, rfl, hst⟩ := hrel
    clear hlay
    by_cases hlt : j < m
    · obtain ⟨x, hx⟩ : ∃ x, (takel 2 l)[j]? = some x := ⟨_, List.getElem?_eq_getElem (by rw [HT.out]; exact hlt)⟩
      have hx6 := HS.out x (List.mem_of_getElem? hx)
      rcases rd_nums (rd_grown Hsrc.out hst.2 (by have := HZ.out; omega) (Nat.le_refl _)) with h | ⟨b, o, rfl, hb, hc1⟩
      · rw [h] at hx; simp at hx
      have c0 := hc1 j _ hx
      have hTx : (ptrs l)[j]? = some (x : Int) := by unfold ptrs; rw [List.getElem?_map, hx]; rfl
      have hstep := Lib.hid (takingI_step hst hTx)
      obtain ⟨⟨v, hcell⟩, hfr⟩ := takingI_cell hst (by rw [HP.out]; exact hlt)
      have e1 : IntKind.i64.wrap (x : Int) = (x : Int) := by rw [IntKind.wrap_i64]; omega
      have hj0 : (0 : Int) ≤ (j : Int) := Int.natCast_nonneg _
      have hjn : (j : Int) < (m : Int) := by omega
      clear hst hx hTx hc1
      go_wp2
      go_roundw
      case rel => exact ⟨j + 1, by omega, by go_num, hstep.out⟩
      case measure => simp [intOf]; omega
    · obtain rfl : j = m := by omega
      have hb := hst.1
      rw [show partI (ptrs l) j = ptrs l by have := partI_all (ptrs l); rwa [HP.out] at this] at hb
      have HBw := Lib.hid (HB1.out.trans ((HB.out.trans (below_of_only hst.2 HB.out.size (Nat.le_refl _))).mono HB1.out.size))
      have HO := Lib.hid (hb.own (base := w.heap.size) j (by rw [length_intsV, HP.out]) HB1.out.size (by simp only [maxLen]; omega))
      clear hst hb
      go_wp2
      go_ret
      exact ⟨_, rfl, by rw [HP.out]; exact HO.out, HBw.out⟩

theorem two_step {L : List Int} {j : Nat} {m : Nat} (h : L[j]? = some (m : Int)) : layl 2 ((L.take (j + 1)).map Int.toNat) = layl 2 ((L.take j).map Int.toNat) ++ digs m 2 := by
  obtain ⟨hj, e⟩ := List.getElem?_eq_some_iff.1 h
  rw [List.take_succ_eq_append_getElem hj, e, List.map_append, layl_append]
  simp [layl]

end Go.Proofs.YtcjkbmmjpkghlaaGreat.Inode

/-
  Blocks of pointers: package inode's Pointers and Block, and the document's.
-/
namespace Go.Proofs.YtcjkbmmjpkghlaaGreat.Inode
open Go.RowKit

/-- Ints, or bytes, and an error, that a call hands back in memory of their own. -/
def HandsI (w : World) (l : List Int) (err : Nat) (e : Ending) (w' : World) : Prop :=
  ∃ v, e = .returned (.tuple #[v, .int .i64 (err : Int)]) ∧ w'.ownsRow w.heap.size 3 1 v l.length (intsV l) ∧ Below w.heap.size w w'
def HandsB (w : World) (bs : List UInt8) (err : Nat) (e : Ending) (w' : World) : Prop :=
  ∃ v, e = .returned (.tuple #[v, .int .i64 (err : Int)]) ∧ w'.ownsRow w.heap.size 5 1 v bs.length (bytesV bs) ∧ Below w.heap.size w w'

theorem poiP_len {b : List UInt8} (h : b.length ≠ 64) : poiP b = ([], 1) := by unfold poiP; rw [if_neg fun h2 => h h2.1]
theorem poiP_yes {b : List UInt8} (h : b.length = 64) (hp : (ptrs b).all ptrB = true) : poiP b = (ptrs b, 0) := by unfold poiP; rw [if_pos ⟨h, hp⟩]
theorem poiP_no {b : List UInt8} (hp : (ptrs b).all ptrB = false) : poiP b = ([], 1) := by unfold poiP; rw [if_neg fun h2 => by rw [hp] at h2; cases h2.2]
theorem bloP_len {l : List Int} (h : l.length ≠ 32) : bloP l = ([], 1) := by unfold bloP; rw [if_neg fun h2 => h h2.1]
theorem bloP_yes {l : List Int} (h : l.length = 32) (hp : l.all ptrB = true) : bloP l = (layl 2 (l.map Int.toNat), 0) := by unfold bloP; rw [if_pos ⟨h, hp⟩]
theorem bloP_no {l : List Int} (hp : l.all ptrB = false) : bloP l = ([], 1) := by unfold bloP; rw [if_neg fun h2 => by rw [hp] at h2; cases h2.2]

/-- append onto an own row of ints. -/
theorem wpList_app33 (w : World) {ops : Array Oper} {rest : List Oper} {o : Oper} {a : Act} {Q : Exit → Act → World → Prop} (hgd : o.guard = none) (s x : Operand)
    (ho : o.op = .call { callee := .builtin .append, args := #[s, x], argTypes := #[57, 57] })
    (base : Nat) (v : Value) (n : Nat) (l : List Int) (hs : a.eval s = v) (hown : w.ownsRow base 3 1 v n (intsV l))
    (B : Nat) (A : Option Addr) (m c : Nat) (k : List Int) (hx : a.eval x = .slice A m c) (hm : k.length = m) (hr : Rd w B A (intsV k))
    (hbytes : n + m ≤ 1000000) (hbase : base ≤ w.heap.size)
    (h : ∀ v' w', w'.ownsRow base 3 1 v' (n + m) (intsV (l ++ k)) → w.grownBy w' v.ownBlock → wpList Tryz.prog ops Q rest (a.put o.dst v') w') : wpList Tryz.prog ops Q (o :: rest) a w := by
  obtain ⟨i0, hi, hz0, hz1, hz2⟩ := info_parts info3
  rw [intsV_append] at h
  exact wpList_app w hgd s x 57 ho base 3 i0 _ 8 Tryz.underlying57 hi hz0 hz1 hz2 rfl v n _ hs hown B A m c _ hx (by rw [length_intsV, hm]) hr (intsV_one k) (by simp only [maxLen]; omega) (by omega) hbase h
theorem rd_one (w : World) (x : Int) (t : TypeId) : Rd (w.alloc (.cells #[.int .i64 x] t)) (w.heap.size + 1) (some ⟨w.heap.size, 0, none⟩) (intsV [x]) := by
  refine .inr ⟨w.heap.size, 0, rfl, by omega, fun i u hu => ?_⟩
  rw [World.cell?_alloc_at _ _ _ _ rfl]
  cases i with
  | zero => simpa [intsV] using hu
  | succ i => simp [intsV] at hu
end Go.Proofs.YtcjkbmmjpkghlaaGreat.Inode

/-
  Inodes as bytes: package inode's Lay and the document's.
-/
namespace Go.Proofs.YtcjkbmmjpkghlaaGreat.Inode
open Go.RowKit

set_option maxHeartbeats 800000 in
set_option maxRecDepth 100000 in
theorem lay_no (k r : Nat) (l s p0 p1 p2 p3 p4 p5 p6 p7 p8 p9 : Int) (w : World) (hk : k < 256) (hr : r < 256) (hR : ¬ Right (⟨k, r, l, s, [p0, p1, p2, p3, p4, p5, p6, p7, p8, p9]⟩ : Ino)) :
    Calls Tryz.prog 165 #[.agg #[.int .u8 (k : Int), .int .u8 (r : Int), .int .i64 l, .int .i64 s, .int .i64 p0, .int .i64 p1, .int .i64 p2, .int .i64 p3, .int .i64 p4, .int .i64 p5, .int .i64 p6, .int .i64 p7, .int .i64 p8, .int .i64 p9]] w fun e w' => HandsB w [] 1 e w' := by
  have HR : Hid (∀ W : World, Calls Tryz.prog 92 #[.agg #[.int .u8 (k : Int), .int .u8 (r : Int), .int .i64 l, .int .i64 s, .int .i64 p0, .int .i64 p1, .int .i64 p2, .int .i64 p3, .int .i64 p4, .int .i64 p5, .int .i64 p6, .int .i64 p7, .int .i64 p8, .int .i64 p9]] W fun e w' => e = .returned (.bool false) ∧ Below W.heap.size W w') := fun W => by
    have := right_ten k r l s p0 p1 p2 p3 p4 p5 p6 p7 p8 p9 W hk hr
    rwa [rightB_no hR] at this
  clear hk hr hR
  go_enter Tryz.func165, Tryz.ntmps165
  go_wp2_with (go_at_call 92; (with_reducible refine (HR.out _).mono ?_); rintro e w1 ⟨he, hb1⟩; obtain rfl := he; obtain ⟨-, hb1', -⟩ := kept_ino hb1; have HB1 := Lib.hid hb1'; clear hb1 hb1')
  go_ret2
  exact ⟨_, rfl, World.ownsRow_nil _ _ _ _, HB1.out⟩
theorem right_small {k r : Nat} {l s : Int} {p : List Int} (h : Right ⟨k, r, l, s, p⟩) : ∀ x ∈ l :: s :: p, 0 ≤ x ∧ x < 65536 := by
  obtain ⟨h0, h1, h2⟩ := right_nat h
  have hs := words_small h
  simp only at h0 h1 h2
  intro x hx
  have hx0 : 0 ≤ x := by
    simp only [List.mem_cons] at hx
    rcases hx with rfl | rfl | hx
    · exact h0
    · exact h1
    · exact h2 x hx
  refine ⟨hx0, ?_⟩
  have := hs x.toNat (by
    show x.toNat ∈ (l :: s :: p).map Int.toNat
    exact List.mem_map.2 ⟨x, hx, rfl⟩)
  omega
def bytesV_kr (k r : Nat) : List UInt8 := [UInt8.ofNat k, UInt8.ofNat r]
theorem len24 (l s p0 p1 p2 p3 p4 p5 p6 p7 p8 p9 : Int) : (layl 2 ([l, s, p0, p1, p2, p3, p4, p5, p6, p7, p8, p9].map Int.toNat)).length = 24 := by rw [length_layl]; rfl
theorem len26 (k r : Nat) (l s p0 p1 p2 p3 p4 p5 p6 p7 p8 p9 : Int) : (bytesV_kr k r ++ layl 2 ([l, s, p0, p1, p2, p3, p4, p5, p6, p7, p8, p9].map Int.toNat)).length = 26 := by rw [List.length_append, len24]; rfl
theorem fill32 (l : List UInt8) (A : Option Addr) (c : Nat) (w : World) (hn : l.length = 26) (hr : Rd w w.heap.size A (bytesV l)) :
    Calls Tryz.prog 155 #[.slice A 26 c, .int .i64 32] w fun e w' => ∃ v, e = .returned (.tuple #[v, .int .i64 0]) ∧ Made w (padl l 32) v w' := fill_ok l A 26 c 32 w hn hr (by omega) (by omega)
theorem byte_of {k : Nat} (h : k < 256) : byteV (UInt8.ofNat k) = .int .u8 (k : Int) := by
  unfold byteV
  congr 1
  simp
  omega
theorem own_kr {k r : Nat} (h : k < 256 ∧ r < 256) (w : World) : (w.alloc (.cells #[.int .u8 (k : Int), .int .u8 (r : Int)] 5)).drew.ownsRow w.heap.size 5 1 (.slice (some ⟨w.heap.size, 0, none⟩) 2 2) 2 (bytesV (bytesV_kr k r)) := by
  have e : bytesV (bytesV_kr k r) = [.int .u8 (k : Int), .int .u8 (r : Int)] := by
    unfold bytesV bytesV_kr
    rw [List.map_cons, List.map_cons, List.map_nil, byte_of h.1, byte_of h.2]
  rw [e]
  have h1 : Bk (w.alloc (.cells #[.int .u8 (k : Int), .int .u8 (r : Int)] 5)).drew w.heap.size 5 [.int .u8 (k : Int), .int .u8 (r : Int)] := Bk.new w 5 _
  exact h1.own 2 rfl (Nat.le_refl _) (by simp only [maxLen]; omega)

theorem own_kr2 {k r : Nat} (h : k < 256 ∧ r < 256) (w : World) : (w.alloc (.cells #[.int .u8 (k : Int), .int .u8 (r : Int)] 5)).ownsRow w.heap.size 5 1 (.slice (some ⟨w.heap.size, 0, none⟩) 2 2) 2 (bytesV (bytesV_kr k r)) := own_kr h w
/-- append onto an own row of ints, or of bytes, as a step of a region. -/
theorem step_app33 {ops : Array Oper} {o : Oper} {a : Act} {w : World} {K : Act → World → Prop} {Q : Exit → Act → World → Prop} {E : Prop} (hgd : o.guard = none) (s x : Operand)
    (ho : o.op = .call { callee := .builtin .append, args := #[s, x], argTypes := #[57, 57] })
    (base : Nat) (v : Value) (n : Nat) (l : List Int) (hs : a.eval s = v) (hown : w.ownsRow base 3 1 v n (intsV l))
    (B : Nat) (A : Option Addr) (m c : Nat) (k : List Int) (hx : a.eval x = .slice A m c) (hm : k.length = m) (hr : Rd w B A (intsV k)) (hbytes : n + m ≤ 1000000) (hbase : base ≤ w.heap.size)
    (h : ∀ v' w', w'.ownsRow base 3 1 v' (n + m) (intsV (l ++ k)) → w.grownBy w' v.ownBlock → K (a.put o.dst v') w') :
    if Region.wanted o (yielded ops a.tmps) = true then Oper.wp Tryz.prog o a w K Q else E := by
  have hw : Region.wanted o (yielded ops a.tmps) = true := by simp [Region.wanted, hgd]
  rw [if_pos hw]
  obtain ⟨i0, hi, hz0, hz1, hz2⟩ := info_parts info3
  rw [intsV_append] at h
  obtain ⟨v', w', hrun, h2, h3⟩ := run_app (P := Tryz.prog) w base 57 o.type 3 i0 _ 8 Tryz.underlying57 hi hz0 hz1 hz2 rfl v n _ hown B A m c _ (by rw [length_intsV, hm]) hr (intsV_one k) (by simp only [maxLen]; omega) (by omega) hbase
  unfold Oper.wp execOp
  simp only [ho, resolve, invoke, builtin, Sem.run_bind, Sem.run_pure, Result.andThen_ok, List.map_toArray, List.map_cons, List.map_nil, hs, hx, hrun]
  exact h v' w' h2 h3
theorem step_app5 {ops : Array Oper} {o : Oper} {a : Act} {w : World} {K : Act → World → Prop} {Q : Exit → Act → World → Prop} {E : Prop} (hgd : o.guard = none) (s x : Operand)
    (ho : o.op = .call { callee := .builtin .append, args := #[s, x], argTypes := #[37, 37] })
    (base : Nat) (v : Value) (n : Nat) (l : List UInt8) (hs : a.eval s = v) (hown : w.ownsRow base 5 1 v n (bytesV l))
    (B : Nat) (A : Option Addr) (m c : Nat) (k : List UInt8) (hx : a.eval x = .slice A m c) (hm : k.length = m) (hr : Rd w B A (bytesV k)) (hbytes : n + m ≤ 1000000) (hbase : base ≤ w.heap.size)
    (h : ∀ v' w', w'.ownsRow base 5 1 v' (n + m) (bytesV (l ++ k)) → w.grownBy w' v.ownBlock → K (a.put o.dst v') w') :
    if Region.wanted o (yielded ops a.tmps) = true then Oper.wp Tryz.prog o a w K Q else E := by
  have hw : Region.wanted o (yielded ops a.tmps) = true := by simp [Region.wanted, hgd]
  rw [if_pos hw]
  obtain ⟨i0, hi, hz0, hz1, hz2⟩ := info_parts info5
  rw [bytesV_append] at h
  obtain ⟨v', w', hrun, h2, h3⟩ := run_app (P := Tryz.prog) w base 37 o.type 5 i0 _ 1 Tryz.underlying37 hi hz0 hz1 hz2 rfl v n _ hown B A m c _ (by rw [length_bytesV, hm]) hr (bytesV_one k) (by simp only [maxLen]; omega) (by omega) hbase
  unfold Oper.wp execOp
  simp only [ho, resolve, invoke, builtin, Sem.run_bind, Sem.run_pure, Result.andThen_ok, List.map_toArray, List.map_cons, List.map_nil, hs, hx, hrun]
  exact h v' w' h2 h3

set_option maxHeartbeats 1600000 in
set_option maxRecDepth 100000 in
theorem lay_yes (k r : Nat) (l s p0 p1 p2 p3 p4 p5 p6 p7 p8 p9 : Int) (w : World) (hk : k < 256) (hr : r < 256) (hR : Right (⟨k, r, l, s, [p0, p1, p2, p3, p4, p5, p6, p7, p8, p9]⟩ : Ino)) :
    Calls Tryz.prog 165 #[.agg #[.int .u8 (k : Int), .int .u8 (r : Int), .int .i64 l, .int .i64 s, .int .i64 p0, .int .i64 p1, .int .i64 p2, .int .i64 p3, .int .i64 p4, .int .i64 p5, .int .i64 p6, .int .i64 p7, .int .i64 p8, .int .i64 p9]] w fun e w' => HandsB w (bytesI (⟨k, r, l, s, [p0, p1, p2, p3, p4, p5, p6, p7, p8, p9]⟩ : Ino)) 0 e w' := by
  have HR : Hid (∀ W : World, Calls Tryz.prog 92 #[.agg #[.int .u8 (k : Int), .int .u8 (r : Int), .int .i64 l, .int .i64 s, .int .i64 p0, .int .i64 p1, .int .i64 p2, .int .i64 p3, .int .i64 p4, .int .i64 p5, .int .i64 p6, .int .i64 p7, .int .i64 p8, .int .i64 p9]] W fun e w' => e = .returned (.bool true) ∧ Below W.heap.size W w') := fun W => by
    have := right_ten k r l s p0 p1 p2 p3 p4 p5 p6 p7 p8 p9 W hk hr
    rwa [rightB_yes hR] at this
  have hsm := right_small hR
  have hnat : k < 256 ∧ r < 256 := ⟨hk, hr⟩
  have HPF : Hid (∀ W : World, Calls Tryz.prog 150 #[.agg #[.int .u8 (k : Int), .int .u8 (r : Int), .int .i64 l, .int .i64 s, .int .i64 p0, .int .i64 p1, .int .i64 p2, .int .i64 p3, .int .i64 p4, .int .i64 p5, .int .i64 p6, .int .i64 p7, .int .i64 p8, .int .i64 p9]] W fun e w' => e = .returned (.agg #[.int .i64 p0, .int .i64 p1, .int .i64 p2, .int .i64 p3, .int .i64 p4, .int .i64 p5, .int .i64 p6, .int .i64 p7, .int .i64 p8, .int .i64 p9]) ∧ Below W.heap.size W w') := fun W => pof_ten k r l s p0 p1 p2 p3 p4 p5 p6 p7 p8 p9 W
  clear hk hr
  go_enter Tryz.func165, Tryz.ntmps165
  go_wp2_with (first
    | (go_at_call 92; (with_reducible refine (HR.out _).mono ?_); rintro e w1 ⟨he, hb1⟩; obtain rfl := he; obtain ⟨hk1, hb1', hs1⟩ := kept_ino hb1; obtain ⟨a0, a1, a2, a3, a4, a5, a6, a7, a8, a9, a10, a11, a12, a13⟩ := ino_cells hk1; have HB1 := Lib.hid hb1'; have HK1 := Lib.hid hk1; clear hb1 hb1' hk1)
    | (go_at_call 150; (with_reducible refine (HPF.out _).mono ?_); rintro e w2 ⟨he, hb2⟩; obtain rfl := he))
  have hk2 : Bk (w2.alloc (.cells #[.int .i64 p0, .int .i64 p1, .int .i64 p2, .int .i64 p3, .int .i64 p4, .int .i64 p5, .int .i64 p6, .int .i64 p7, .int .i64 p8, .int .i64 p9] 198)) w.heap.size 40 [.int .u8 (k : Int), .int .u8 (r : Int), .int .i64 l, .int .i64 s, .int .i64 p0, .int .i64 p1, .int .i64 p2, .int .i64 p3, .int .i64 p4, .int .i64 p5, .int .i64 p6, .int .i64 p7, .int .i64 p8, .int .i64 p9] := (HK1.out.below hb2 HK1.out.lt).below (alloc_below w2 _) (Nat.lt_of_lt_of_le hs1 hb2.size)
  have hp2 : Bk (w2.alloc (.cells #[.int .i64 p0, .int .i64 p1, .int .i64 p2, .int .i64 p3, .int .i64 p4, .int .i64 p5, .int .i64 p6, .int .i64 p7, .int .i64 p8, .int .i64 p9] 198)) w2.heap.size 198 [.int .i64 p0, .int .i64 p1, .int .i64 p2, .int .i64 p3, .int .i64 p4, .int .i64 p5, .int .i64 p6, .int .i64 p7, .int .i64 p8, .int .i64 p9] := Bk.new w2 198 _
  have hbb : Below w.heap.size w (w2.alloc (.cells #[.int .i64 p0, .int .i64 p1, .int .i64 p2, .int .i64 p3, .int .i64 p4, .int .i64 p5, .int .i64 p6, .int .i64 p7, .int .i64 p8, .int .i64 p9] 198)) := (HB1.out.trans (hb2.mono (Nat.le_of_lt hs1))).alloc (Nat.le_trans HB1.out.size hb2.size) _
  have hsz : w.heap.size < w2.heap.size := Nat.lt_of_lt_of_le hs1 hb2.size
  have hss : w2.heap.size < (w2.alloc (.cells #[.int .i64 p0, .int .i64 p1, .int .i64 p2, .int .i64 p3, .int .i64 p4, .int .i64 p5, .int .i64 p6, .int .i64 p7, .int .i64 p8, .int .i64 p9] 198)).heap.size := by simp
  clear hb2 a0 a1 a2 a3 a4 a5 a6 a7 a8 a9 a10 a11 a12 a13 HK1 HB1 hs1
  generalize w2.alloc (.cells #[.int .i64 p0, .int .i64 p1, .int .i64 p2, .int .i64 p3, .int .i64 p4, .int .i64 p5, .int .i64 p6, .int .i64 p7, .int .i64 p8, .int .i64 p9] 198) = W at *
  generalize w2.heap.size = g at *
  obtain ⟨a0, a1, a2, a3, a4, a5, a6, a7, a8, a9, a10, a11, a12, a13⟩ := ino_cells hk2
  have hbm : Below W.heap.size W (W.alloc (.cells #[.int .i64 l, .int .i64 s] 3)).drew := below_drew (alloc_below W _)
  have m2 := Lib.hid ((hbm.cell (p := ⟨w.heap.size, 2, none⟩) (show w.heap.size < W.heap.size by omega)).trans a2)
  have m3 := Lib.hid ((hbm.cell (p := ⟨w.heap.size, 3, none⟩) (show w.heap.size < W.heap.size by omega)).trans a3)
  have hpk : Rd (W.alloc (.cells #[.int .i64 l, .int .i64 s] 3)).drew (W.heap.size + 1) (some ⟨g, 0, none⟩) (intsV [p0, p1, p2, p3, p4, p5, p6, p7, p8, p9]) := by
    have h1 := hp2.below hbm (by omega)
    have h2 := h1.rd 10 0
    exact h2.more (by show _ ≤ _; simp [World.drew])
  have how : (W.alloc (.cells #[.int .i64 l, .int .i64 s] 3)).drew.ownsRow W.heap.size 3 1 (.slice (some ⟨W.heap.size, 0, none⟩) 2 2) 2 (intsV [l, s]) := (show Bk (W.alloc (.cells #[.int .i64 l, .int .i64 s] 3)).drew W.heap.size 3 (intsV [l, s]) from Bk.new W 3 (intsV [l, s])).own 2 rfl (Nat.le_refl _) (by simp only [maxLen]; omega)
  have HPK := Lib.hid hpk
  have HOW := Lib.hid how
  have HBM := Lib.hid hbm
  have h01 := Lib.hid a2
  have h02 := Lib.hid a3
  clear hpk how hbm a4 a5 a6 a7 a8 a9 a10 a11 a12 a13
  go_region_held3 (fun u => u.cell? ⟨w.heap.size, 2, none⟩ = some (.int .i64 l) ∧ u.cell? ⟨w.heap.size, 3, none⟩ = some (.int .i64 s) ∧ Below W.heap.size W u) (first | exact ⟨h01.out, h02.out, below_drew (Below.refl _ W)⟩ | exact ⟨m2.out, m3.out, HBM.out⟩ | exact ⟨m42, m43, hb4⟩) (first | (refine step_app33 rfl (.tmp 15) (.tmp 16) rfl W.heap.size (.slice (some ⟨W.heap.size, 0, none⟩) 2 2) 2 [l, s] rfl HOW.out _ (some ⟨g, 0, none⟩) 10 10 [p0, p1, p2, p3, p4, p5, p6, p7, p8, p9] rfl rfl HPK.out (by omega) HBM.out.size ?_; intro v4 w4 hown4 hg4; have hb4 := HBM.out.grown hg4 HBM.out.size (fun q hq => (HOW.out.lt q hq).1); have m42 := (hb4.cell (p := ⟨w.heap.size, 2, none⟩) (show w.heap.size < W.heap.size by omega)).trans h01.out; have m43 := (hb4.cell (p := ⟨w.heap.size, 3, none⟩) (show w.heap.size < W.heap.size by omega)).trans h02.out))
  have hsW : W.heap.size ≤ w4.heap.size := hb4.size
  obtain ⟨_, A4, c4, rfl, hc4, hx4, hr4⟩ := own_rd hown4
  have m40 := (hb4.cell (p := ⟨w.heap.size, 0, none⟩) (show w.heap.size < W.heap.size by omega)).trans a0
  have m41 := (hb4.cell (p := ⟨w.heap.size, 1, none⟩) (show w.heap.size < W.heap.size by omega)).trans a1
  have hb4w : Below w.heap.size w w4 := hbb.trans (hb4.mono (by omega))
  have h4s : w.heap.size < w4.heap.size := by omega
  have HR4 := Lib.hid (show Rd w4 w4.heap.size A4 (intsV [l, s, p0, p1, p2, p3, p4, p5, p6, p7, p8, p9]) from hr4)
  have HB4 := Lib.hid hb4w
  clear hg4 hown4 hr4 hb4w hb4 HPK HOW HBM h01 h02 m2 m3 m42 m43 a0 a1 a2 a3 hbb hk2 hp2 hss hsW
  clear HR HPF
  go_wp2_with fail
  have HN := Lib.hid hnat
  have HS : Hid (∀ x ∈ [l, s, p0, p1, p2, p3, p4, p5, p6, p7, p8, p9], 0 ≤ x ∧ x < 65536) := hsm
  have HY : Hid (bytesI (⟨k, r, l, s, [p0, p1, p2, p3, p4, p5, p6, p7, p8, p9]⟩ : Ino) = padl (bytesV_kr k r ++ layl 2 (([l, s, p0, p1, p2, p3, p4, p5, p6, p7, p8, p9]).map Int.toNat)) 32) := rfl
  have HL24 := Lib.hid (len24 l s p0 p1 p2 p3 p4 p5 p6 p7 p8 p9)
  have HL26 := Lib.hid (len26 k r l s p0 p1 p2 p3 p4 p5 p6 p7 p8 p9)
  have HA0 := Lib.hid m40
  have HA1 := Lib.hid m41
  -- ahead of the call
  have hbA : Below w4.heap.size w4 (w4.alloc (.cells #[.int .u8 (k : Int), .int .u8 (r : Int)] 5)).drew := below_drew (alloc_below w4 _)
  have hoA : (w4.alloc (.cells #[.int .u8 (k : Int), .int .u8 (r : Int)] 5)).drew.ownsRow w4.heap.size 5 1 (.slice (some ⟨w4.heap.size, 0, none⟩) 2 2) 2 (bytesV (bytesV_kr k r)) := own_kr HN.out w4
  have hrA := (HR4.out.below hbA).more hbA.size
  have HBA := Lib.hid hbA
  have HOA := Lib.hid hoA
  have HRA := Lib.hid hrA
  have HRB : Hid (Rd w4.drew w4.drew.heap.size A4 (intsV [l, s, p0, p1, p2, p3, p4, p5, p6, p7, p8, p9])) := HR4.out
  have HBB : Hid (Below w4.heap.size w4 w4.drew) := below_drew (Below.refl _ w4)
  have hA0 := Lib.hid ((HBA.out.cell (p := ⟨w.heap.size, 0, none⟩) h4s).trans m40)
  have hA1 := Lib.hid ((HBA.out.cell (p := ⟨w.heap.size, 1, none⟩) h4s).trans m41)
  clear hbA hoA hrA hnat hsm hc4 hx4
  go_region_held3 (fun u => u.cell? ⟨w.heap.size, 0, none⟩ = some (.int .u8 (k : Int)) ∧ u.cell? ⟨w.heap.size, 1, none⟩ = some (.int .u8 (r : Int)) ∧ Below w4.heap.size w4 u)
    (first | exact ⟨HA0.out, HA1.out, HBB.out⟩ | exact ⟨hA0.out, hA1.out, HBA.out⟩ | exact ⟨m80, m81, hb8⟩ | exact ⟨m70, m71, hb7⟩ | exact ⟨m60, m61, hb6⟩ | exact ⟨n60, n61, nb6⟩)
    (first
      | (go_at_call 200; (with_reducible refine (pack_any [l, s, p0, p1, p2, p3, p4, p5, p6, p7, p8, p9] A4 12 c4 _ rfl HRA.out HS.out (by omega)).mono ?_); rintro e w6 ⟨v6, he, hown6, hc6⟩; obtain rfl := he; rw [HL24.out] at hown6; have hb6 := HBA.out.trans (hc6.mono HBA.out.size); have m60 := (hb6.cell (p := ⟨w.heap.size, 0, none⟩) h4s).trans HA0.out; have m61 := (hb6.cell (p := ⟨w.heap.size, 1, none⟩) h4s).trans HA1.out; have HO6 := Lib.hid (own_below HOA.out hc6); obtain ⟨-, A6, c6, hv6, -, -, hr6⟩ := own_rd hown6; subst hv6; have HR6 := Lib.hid hr6; have HB6 := Lib.hid hb6; clear hown6 hc6 hr6)
      | (go_at_call 200; (with_reducible refine (pack_any [l, s, p0, p1, p2, p3, p4, p5, p6, p7, p8, p9] A4 12 c4 _ rfl HRB.out HS.out (by omega)).mono ?_); rintro e w6 ⟨v6, he, hown6, hc6⟩; obtain rfl := he; rw [HL24.out] at hown6; have hb6 := HBB.out.trans (hc6.mono (Nat.le_refl _)); have m60 := (hb6.cell (p := ⟨w.heap.size, 0, none⟩) h4s).trans HA0.out; have m61 := (hb6.cell (p := ⟨w.heap.size, 1, none⟩) h4s).trans HA1.out; obtain ⟨-, A6, c6, hv6, -, -, hr6⟩ := own_rd hown6; subst hv6; have hbn := alloc_below w6 (.cells #[.int .u8 (k : Int), .int .u8 (r : Int)] 5); have nb6 := hb6.trans (hbn.mono hb6.size); have n60 := (nb6.cell (p := ⟨w.heap.size, 0, none⟩) h4s).trans HA0.out; have n61 := (nb6.cell (p := ⟨w.heap.size, 1, none⟩) h4s).trans HA1.out; have HO6b := Lib.hid (own_mono (own_kr2 HN.out w6) hb6.size); have HR6b := Lib.hid (hr6.below hbn); have NB6 := Lib.hid nb6; clear hown6 hc6 hr6 hbn)
      | (refine step_app5 rfl (.tmp 22) (.tmp 24) rfl w4.heap.size (.slice (some ⟨w4.heap.size, 0, none⟩) 2 2) 2 (bytesV_kr k r) rfl HO6.out _ A6 24 c6 (layl 2 ([l, s, p0, p1, p2, p3, p4, p5, p6, p7, p8, p9].map Int.toNat)) rfl HL24.out HR6.out (by omega) HB6.out.size ?_; intro v7 w7 hown7 hg7; have hb7 := HB6.out.grown hg7 HB6.out.size (fun q hq => (HO6.out.lt q hq).1); have m70 := (hb7.cell (p := ⟨w.heap.size, 0, none⟩) h4s).trans HA0.out; have m71 := (hb7.cell (p := ⟨w.heap.size, 1, none⟩) h4s).trans HA1.out; have hown7' : w7.ownsRow w4.heap.size 5 1 v7 26 (bytesV (bytesV_kr k r ++ layl 2 ([l, s, p0, p1, p2, p3, p4, p5, p6, p7, p8, p9].map Int.toNat))) := hown7; obtain ⟨-, A7, c7, hv7, -, -, hr7⟩ := own_rd hown7'; subst hv7; have HR7 := Lib.hid hr7; have HB7 := Lib.hid hb7; clear hown7 hown7' hr7 hg7)
      | (refine step_app5 rfl (.tmp 22) (.tmp 24) rfl w4.heap.size (.slice (some ⟨w6.heap.size, 0, none⟩) 2 2) 2 (bytesV_kr k r) rfl HO6b.out _ A6 24 c6 (layl 2 ([l, s, p0, p1, p2, p3, p4, p5, p6, p7, p8, p9].map Int.toNat)) rfl HL24.out HR6b.out (by omega) NB6.out.size ?_; intro v7 w7 hown7 hg7; have hb7 := NB6.out.grown hg7 NB6.out.size (fun q hq => (HO6b.out.lt q hq).1); have m70 := (hb7.cell (p := ⟨w.heap.size, 0, none⟩) h4s).trans HA0.out; have m71 := (hb7.cell (p := ⟨w.heap.size, 1, none⟩) h4s).trans HA1.out; have hown7' : w7.ownsRow w4.heap.size 5 1 v7 26 (bytesV (bytesV_kr k r ++ layl 2 ([l, s, p0, p1, p2, p3, p4, p5, p6, p7, p8, p9].map Int.toNat))) := hown7; obtain ⟨-, A7, c7, hv7, -, -, hr7⟩ := own_rd hown7'; subst hv7; have HR7 := Lib.hid hr7; have HB7 := Lib.hid hb7; clear hown7 hown7' hr7 hg7)
      | (go_at_call 155; (with_reducible refine (fill32 (bytesV_kr k r ++ layl 2 ([l, s, p0, p1, p2, p3, p4, p5, p6, p7, p8, p9].map Int.toNat)) A7 c7 _ HL26.out HR7.out).mono ?_); rintro e w8 ⟨v8, he, hm8⟩; obtain rfl := he; have hb8 := HB7.out.trans (hm8.2.mono HB7.out.size); have m80 := (hb8.cell (p := ⟨w.heap.size, 0, none⟩) h4s).trans HA0.out; have m81 := (hb8.cell (p := ⟨w.heap.size, 1, none⟩) h4s).trans HA1.out; have HM8 := Lib.hid hm8; have HB8 := Lib.hid hb8; clear hm8))
  all_goals
    have h47 := HB7.out.size
    go_wp2
    go_ret2
    exact ⟨_, rfl, own_mono HM8.out.1 (by omega), HB4.out.trans (HB8.out.mono (by omega))⟩
end Go.Proofs.YtcjkbmmjpkghlaaGreat.Inode

/-
  Inodes as bytes: the document's Lay.
-/
namespace Go.Proofs.YtcjkbmmjpkghlaaGreat.Inode
open Go.RowKit

theorem rd_pair (u : World) (g : Nat) (hg : g = u.heap.size) (x y : Int) : Rd (u.alloc (.cells #[.int .i64 x, .int .i64 y] 3)) (u.alloc (.cells #[.int .i64 x, .int .i64 y] 3)).heap.size (some ⟨g, 0, none⟩) (intsV [x, y]) := by
  subst hg
  have h : Bk (u.alloc (.cells #[.int .i64 x, .int .i64 y] 3)) u.heap.size 3 (intsV [x, y]) := Bk.new u 3 _
  exact h.rd 2 0
theorem rd_dir {W : World} {g : Nat} {k r : Nat} {l s p0 p1 p2 p3 p4 p5 p6 p7 p8 p9 : Int} (h : Bk W g 40 [.int .u8 (k : Int), .int .u8 (r : Int), .int .i64 l, .int .i64 s, .int .i64 p0, .int .i64 p1, .int .i64 p2, .int .i64 p3, .int .i64 p4, .int .i64 p5, .int .i64 p6, .int .i64 p7, .int .i64 p8, .int .i64 p9]) : Rd W W.heap.size (some ⟨g, 4, none⟩) (intsV [p0, p1, p2, p3, p4, p5, p6, p7]) := h.rd 8 4
theorem glue (k r : Nat) (l s p0 p1 p2 p3 p4 p5 p6 p7 p8 p9 : Int) : ((bytesV_kr k r ++ layl 2 ([l, s].map Int.toNat)) ++ layl 2 ([p0, p1, p2, p3, p4, p5, p6, p7].map Int.toNat)) ++ layl 2 ([p8, p9].map Int.toNat) = headI (⟨k, r, l, s, [p0, p1, p2, p3, p4, p5, p6, p7, p8, p9]⟩ : Ino) := by
  unfold headI words bytesV_kr
  rw [List.append_assoc, List.append_assoc, ← layl_append, ← layl_append]
  rfl
theorem len4 (l s : Int) : (layl 2 ([l, s].map Int.toNat)).length = 4 := by rw [length_layl]; rfl
theorem len16 (p0 p1 p2 p3 p4 p5 p6 p7 : Int) : (layl 2 ([p0, p1, p2, p3, p4, p5, p6, p7].map Int.toNat)).length = 16 := by rw [length_layl]; rfl
/-- Lay, and the document's. -/
theorem lay_ino (n : Ino) (ho : Oki n) (w : World) : Calls Tryz.prog 165 #[inoV n] w fun e w' => HandsB w (layI n).1 (layI n).2 e w' := by
  by_cases hR : Right n
  · rw [layI_yes hR]
    obtain ⟨k, r, l, s, p⟩ := n
    obtain ⟨p0, p1, p2, p3, p4, p5, p6, p7, p8, p9, hp⟩ := ten_of ho.len
    simp only at hp
    subst hp
    exact lay_yes k r l s p0 p1 p2 p3 p4 p5 p6 p7 p8 p9 w ho.k ho.r hR
  · rw [layI_no hR]
    obtain ⟨k, r, l, s, p⟩ := n
    obtain ⟨p0, p1, p2, p3, p4, p5, p6, p7, p8, p9, hp⟩ := ten_of ho.len
    simp only at hp
    subst hp
    exact lay_no k r l s p0 p1 p2 p3 p4 p5 p6 p7 p8 p9 w ho.k ho.r hR
end Go.Proofs.YtcjkbmmjpkghlaaGreat.Inode

/-
  Blocks made, bytes compared, and what Take and Lay hand back.
-/
namespace Go.Proofs.YtcjkbmmjpkghlaaGreat.Inode
open Go.RowKit

theorem ptrs15 (b : List UInt8) (h : b.length = 32) : ptrs (b.drop 2) = [((numL b 2 : Nat) : Int), ((numL b 4 : Nat) : Int), ((numL b 6 : Nat) : Int), ((numL b 8 : Nat) : Int), ((numL b 10 : Nat) : Int), ((numL b 12 : Nat) : Int), ((numL b 14 : Nat) : Int), ((numL b 16 : Nat) : Int), ((numL b 18 : Nat) : Int), ((numL b 20 : Nat) : Int), ((numL b 22 : Nat) : Int), ((numL b 24 : Nat) : Int), ((numL b 26 : Nat) : Int), ((numL b 28 : Nat) : Int), ((numL b 30 : Nat) : Int)] := by
  unfold ptrs
  rw [takel15 b h]
  rfl
theorem byte_at (b : List UInt8) (i : Nat) (h : i < b.length) : (bytesV b)[i]? = some (.int .u8 ((b.getD i 0).toNat : Int)) := by
  simp [bytesV, byteV, List.getD_eq_getElem?_getD, List.getElem?_eq_getElem h]
theorem lt_of {w : World} {g o : Nat} {v : Value} (h : w.cell? ⟨g, o, none⟩ = some v) : g < w.heap.size := World.block_lt_of_cell? w _ h
/-- Two blocks made. -/
theorem two_new (w : World) (xs ys : List Value) (a b : TypeId) : ∀ W, W = ((w.alloc (.cells xs.toArray a)).alloc (.cells ys.toArray b)).drew →
    Bk W w.heap.size a xs ∧ Bk W (w.heap.size + 1) b ys ∧ Below w.heap.size w W ∧ W.heap.size = w.heap.size + 2 := by
  rintro W rfl
  have h1 := Bk.new w a xs
  have b1 := alloc_below w (.cells xs.toArray a)
  have s1 : (w.alloc (.cells xs.toArray a)).heap.size = w.heap.size + 1 := by simp
  generalize w.alloc (.cells xs.toArray a) = w1 at *
  have h2 := Bk.new w1 b ys
  have b2 := alloc_below w1 (.cells ys.toArray b)
  have s2 : (w1.alloc (.cells ys.toArray b)).heap.size = w1.heap.size + 1 := by simp
  generalize w1.alloc (.cells ys.toArray b) = w2 at *
  rw [s1] at h2
  have h4 : Bk w2 w.heap.size a xs := h1.below b2 (by omega)
  exact ⟨h4, h2, (show Below w.heap.size w w2.drew from below_drew (b1.trans (b2.mono (by omega)))), by show w2.heap.size = _; omega⟩
theorem src10 {W : World} {B g : Nat} {n0 n1 n2 n3 n4 n5 n6 n7 n8 n9 n10 n11 n12 n13 n14 : Nat} (h : Rd W B (some ⟨g, 0, none⟩) (intsV [(n0 : Int), (n1 : Int), (n2 : Int), (n3 : Int), (n4 : Int), (n5 : Int), (n6 : Int), (n7 : Int), (n8 : Int), (n9 : Int), (n10 : Int), (n11 : Int), (n12 : Int), (n13 : Int), (n14 : Int)])) : ∀ j v, (intsV [(n2 : Int), (n3 : Int), (n4 : Int), (n5 : Int), (n6 : Int), (n7 : Int), (n8 : Int), (n9 : Int), (n10 : Int), (n11 : Int)])[j]? = some v → W.cell? (Addr.add ⟨g, 2, none⟩ j) = some v := by
  intro j v hv
  have e : intsV [(n2 : Int), (n3 : Int), (n4 : Int), (n5 : Int), (n6 : Int), (n7 : Int), (n8 : Int), (n9 : Int), (n10 : Int), (n11 : Int)] = ((intsV [(n0 : Int), (n1 : Int), (n2 : Int), (n3 : Int), (n4 : Int), (n5 : Int), (n6 : Int), (n7 : Int), (n8 : Int), (n9 : Int), (n10 : Int), (n11 : Int), (n12 : Int), (n13 : Int), (n14 : Int)]).drop 2).take 10 := rfl
  rw [e, List.getElem?_take] at hv
  split at hv
  · rw [List.getElem?_drop] at hv
    rw [Addr.add_lit]
    rcases h with h | ⟨b, o, hb, _, hc⟩
    · cases h
    · injection hb with hb
      injection hb with h1 h2 _
      subst h1 h2
      have := hc (2 + j) v hv
      rwa [Nat.zero_add] at this
  · simp at hv
theorem str_of {l : List UInt8} {A : Option Addr} {n c B : Nat} {w : World} (hn : l.length = n) (hr : Rd w B A (bytesV l)) : (convert 37 9 (.slice A n c)).run Tryz.prog w = .ok (.string ⟨l.toArray⟩) w :=
  run_str w 37 9 5 Tryz.underlying37 Tryz.underlying5 Tryz.underlying9 B A n c l hn hr
theorem equal_any (l m : List UInt8) (A : Option Addr) (n c : Nat) (A2 : Option Addr) (n2 c2 B B2 : Nat) (w : World) (hn : l.length = n) (hr : Rd w B A (bytesV l)) (hn2 : m.length = n2) (hr2 : Rd w B2 A2 (bytesV m)) :
    Calls Tryz.prog 114 #[.slice A n c, .slice A2 n2 c2] w fun e w' => e = .returned (.bool (l == m)) ∧ w = w' := by
  have h1 := str_of (c := c) hn hr
  have h2 := str_of (c := c2) hn2 hr2
  clear hn hr hn2 hr2
  go_enter Tryz.func114, Tryz.ntmps114
  go_wp2
  go_ret
  exact ⟨rfl, rfl⟩
theorem HandsB.got {w w' : World} {bs : List UInt8} {err n : Nat} {e : Ending} (h : HandsB w bs err e w') (hn : bs.length = n) : ∃ A c, e = .returned (.tuple #[.slice A n c, .int .i64 (err : Int)]) ∧ n ≤ c ∧ Rd w' w'.heap.size A (bytesV bs) ∧ Below w.heap.size w w' := by
  subst hn
  obtain ⟨v, he, hown, hb⟩ := h
  obtain ⟨_, A, c, rfl, hc, _, hr⟩ := own_rd hown
  exact ⟨A, c, he, hc, hr, hb⟩
/-- What Take hands back. -/
def HandsN (w : World) (n : Ino) (err : Nat) (e : Ending) (w' : World) : Prop := e = .returned (.tuple #[inoV n, .int .i64 (err : Int)]) ∧ Below w.heap.size w w'

end Go.Proofs.YtcjkbmmjpkghlaaGreat.Inode
