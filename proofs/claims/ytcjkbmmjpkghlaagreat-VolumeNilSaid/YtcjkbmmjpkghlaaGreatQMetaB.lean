/-
  Package meta's copies of slices: of rows, numbers, bytes and inodes.
-/
import Derived.Test.YtcjkbmmjpkghlaaGreatQMetaU
import Derived.Test.YtcjkbmmjpkghlaaGreatQInternA
import Derived.Deep.WholeRow
import Derived.Test.YtcjkbmmjpkghlaaGreatQMetaX1
import Derived.Test.YtcjkbmmjpkghlaaGreatQF
import Derived.Test.YtcjkbmmjpkghlaaGreatQMetaA
import Derived.RangeFuncNested
import Derived.RangeFuncBound
import Derived.RangeFuncCalls
import Derived.RangeFuncLeaves
import Derived.RangeFuncBox
import Derived.RangeFuncFrom
import Derived.Shelf.RegionOpen
import Derived.Shelf.Abstract
import Derived.OwnWalkIn
import Derived.TacticsInMore
import Derived.LoopNIn
import Derived.LoopIn
import Derived.BigRegionIn
import Derived.Test.YtcjkbmmjpkghlaaGreatQInodeB
namespace Go.Proofs.YtcjkbmmjpkghlaaGreat.Meta
open Go.Proofs.YtcjkbmmjpkghlaaGreat
open Go.RowKit

theorem run_copy_rd {P : Program} (w : World) (dT sT ty elem : TypeId) (g n dCap B : Nat) (A : Option Addr) (sCap k : Nat) (cur : List Value) (t : TypeId) (cs : List Value)
    (hu : P.underlying dT = some (.slice elem)) (hs : (P.info? elem).map (·.size) = some k) (hk : 0 < k)
    (hg : w.heap[g]? = some (.cells cur.toArray t (0, 0))) (hn : cs.length = n * k) (hc : cur.length = n * k)
    (hsrc : Rd w B A cs) (h1 : ∀ v ∈ cs, v.oneCell' = true) :
    (Builtin.copy_ #[dT, sT] ty #[.slice (some ⟨g, 0, none⟩) n dCap, .slice A n sCap]).run P w = .ok (goInt n) (w.setRow g cs.toArray) := by
  rcases hsrc with h | ⟨b, o, rfl, _, h3⟩
  · subst h
    have hn0 : n = 0 := by
      rcases Nat.eq_zero_or_pos n with h | h
      · exact h
      · have := Nat.mul_pos h hk
        simp only [List.length_nil] at hn
        omega
    subst hn0
    have hc0 : cur = [] := List.eq_nil_of_length_eq_zero (by simpa using hc)
    subst hc0
    have hself : w.setRow g (List.toArray []) = w := setRow_self w g _ t (0, 0) hg
    cases hq : P.info? elem with
    | none => simp [hq] at hs
    | some i =>
      cases A with
      | none => simp [Builtin.copy_, run_underlying hu, Builtin.lenOf, Builtin.firstCells, sizeOf, typeInfo, hq, storeCells]; exact hself.symm
      | some a => simp [Builtin.copy_, run_underlying hu, Builtin.lenOf, Builtin.firstCells, sizeOf, typeInfo, hq, storeCells, loadCells, loadCellsFrom]; exact hself.symm
  · exact Intern.run_copy_all w dT sT ty elem g n dCap ⟨b, o, none⟩ sCap k cur t cs hu hs hg hn hc (fun j v hv => by rw [Addr.add_lit]; exact h3 j v hv) h1
theorem wpList_copy_rd {P : Program} {w : World} {ops : Array Oper} {rest : List Oper} {o : Oper} {a : Act} {Q : Exit → Act → World → Prop} (hgd : o.guard = none) (d s : Operand) (dT sT : TypeId)
    (ho : o.op = .call { callee := .builtin .copy, args := #[d, s], argTypes := #[dT, sT] }) (elem : TypeId) (k : Nat) (hu : P.underlying dT = some (.slice elem)) (hsz : (P.info? elem).map (·.size) = some k) (hk : 0 < k)
    (g n dCap : Nat) (B : Nat) (A : Option Addr) (sCap : Nat) (hd : a.eval d = .slice (some ⟨g, 0, none⟩) n dCap) (hs : a.eval s = .slice A n sCap)
    (cur : List Value) (t : TypeId) (hg : w.heap[g]? = some (.cells cur.toArray t (0, 0))) (cs : List Value) (hn : cs.length = n * k) (hc : cur.length = n * k)
    (hsrc : Rd w B A cs) (h1 : ∀ v ∈ cs, v.oneCell' = true)
    (h : ∀ w', Hid (w' = w.setRow g cs.toArray) → wpList P ops Q rest (a.put o.dst (goInt n)) w') : wpList P ops Q (o :: rest) a w := by
  refine wpList_plain hgd fun K hK => ?_
  have hrun := run_copy_rd (P := P) w dT sT o.type elem g n dCap B A sCap k cur t cs hu hsz hk hg hn hc hsrc h1
  unfold Oper.wp
  simp [execOp, ho, resolve, invoke, builtin, hd, hs, hrun, Result.andThen]
  exact hK _ _ (h _ (Lib.hid rfl))
theorem size_row : (Tryz.prog.info? 68).map (·.size) = some 2 := by kernel_rfl
theorem size_int : (Tryz.prog.info? 3).map (·.size) = some 1 := by kernel_rfl
theorem size_u8 : (Tryz.prog.info? 5).map (·.size) = some 1 := by kernel_rfl
theorem size_inode : (Tryz.prog.info? 40).map (·.size) = some 14 := by kernel_rfl
theorem ends_copy {w w3 : World} {t : TypeId} {cur cs : List Value} (h : w3 = (w.alloc (.cells cur.toArray t)).setRow w.heap.size cs.toArray) : w3 = w.alloc (.cells cs.toArray t) := by
  rw [h, World.setRow_alloc_new]

theorem made_row (n : Nat) (h : n ≤ 65536) : ∃ cur : List Value, cur.length = n * 2 ∧ ∀ u : World, (Instr.makeSlice 56 (.int .i64 (n : Int)) (.int .i64 (n : Int))).run Tryz.prog u =
    .ok (.slice (some ⟨u.heap.size, 0, none⟩) n n) (u.alloc (.cells cur.toArray 68)) := by
  obtain ⟨i0, hi, hz0, hz1, hz2⟩ := info_parts Intern.info37
  refine ⟨(madeCells (Value.cells (.agg #[.int .u16 0, .int .i64 0])) (n * i0.size)).toList, by rw [hz1]; simp [madeCells], fun u => ?_⟩
  have hr := run_make (P := Tryz.prog) u 56 68 i0 (.agg #[.int .u16 0, .int .i64 0]) Tryz.underlying56 hi hz0 .i64 .i64 (n : Int) (n : Int) (by omega) (Int.le_refl _) (by rw [hz2]; omega) (by omega)
  rw [Int.toNat_natCast] at hr
  exact hr
theorem copied_row (xs : List Value) (A : Option Addr) (n c : Nat) (w : World) (hn : xs.length = n * 2) (h1 : ∀ v ∈ xs, v.oneCell' = true) (hr : Rd w w.heap.size A xs) (h : n ≤ 65536) :
    Calls Tryz.prog 137 #[.slice A n c] w fun e w' => e = .returned (.slice (some ⟨w.heap.size, 0, none⟩) n n) ∧ w' = w.alloc (.cells xs.toArray 68) := by
  obtain ⟨cur, hcur, hmk⟩ := made_row n h
  have hsrc := Lib.hid (hr.below (al_below w (.cells cur.toArray 68)))
  have Hn := Lib.hid hn
  have Hc := Lib.hid hcur
  have H1 := Lib.hid h1
  clear hn h1 hr hcur
  go_enter Tryz.func137, Tryz.ntmps137
  go_wp2_with (refine wpList_copy_rd rfl (.tmp 7) (.tmp 8) 56 56 rfl 68 2 Tryz.underlying56 size_row (by omega) w.heap.size n n w.heap.size A c rfl rfl cur 68 (heap_alloc_new w _) xs Hn.out Hc.out hsrc.out H1.out ?_; intro w3 h3; have h3 := ends_copy h3.out; subst h3)
  go_ret
  exact ⟨rfl, rfl⟩

theorem made_int (n : Nat) (h : n ≤ 65536) : ∃ cur : List Value, cur.length = n * 1 ∧ ∀ u : World, (Instr.makeSlice 57 (.int .i64 (n : Int)) (.int .i64 (n : Int))).run Tryz.prog u =
    .ok (.slice (some ⟨u.heap.size, 0, none⟩) n n) (u.alloc (.cells cur.toArray 3)) := by
  obtain ⟨i0, hi, hz0, hz1, hz2⟩ := info_parts Inode.info3
  refine ⟨(madeCells (Value.cells (.int .i64 0)) (n * i0.size)).toList, by rw [hz1]; simp [madeCells], fun u => ?_⟩
  have hr := run_make (P := Tryz.prog) u 57 3 i0 (.int .i64 0) Tryz.underlying57 hi hz0 .i64 .i64 (n : Int) (n : Int) (by omega) (Int.le_refl _) (by rw [hz2]; omega) (by omega)
  rw [Int.toNat_natCast] at hr
  exact hr
theorem copied_int (xs : List Value) (A : Option Addr) (n c : Nat) (w : World) (hn : xs.length = n * 1) (h1 : ∀ v ∈ xs, v.oneCell' = true) (hr : Rd w w.heap.size A xs) (h : n ≤ 65536) :
    Calls Tryz.prog 138 #[.slice A n c] w fun e w' => e = .returned (.slice (some ⟨w.heap.size, 0, none⟩) n n) ∧ w' = w.alloc (.cells xs.toArray 3) := by
  obtain ⟨cur, hcur, hmk⟩ := made_int n h
  have hsrc := Lib.hid (hr.below (al_below w (.cells cur.toArray 3)))
  have Hn := Lib.hid hn
  have Hc := Lib.hid hcur
  have H1 := Lib.hid h1
  clear hn h1 hr hcur
  go_enter Tryz.func138, Tryz.ntmps138
  go_wp2_with (refine wpList_copy_rd rfl (.tmp 7) (.tmp 8) 57 57 rfl 3 1 Tryz.underlying57 size_int (by omega) w.heap.size n n w.heap.size A c rfl rfl cur 3 (heap_alloc_new w _) xs Hn.out Hc.out hsrc.out H1.out ?_; intro w3 h3; have h3 := ends_copy h3.out; subst h3)
  go_ret
  exact ⟨rfl, rfl⟩

theorem made_u8 (n : Nat) (h : n ≤ 65536) : ∃ cur : List Value, cur.length = n * 1 ∧ ∀ u : World, (Instr.makeSlice 37 (.int .i64 (n : Int)) (.int .i64 (n : Int))).run Tryz.prog u =
    .ok (.slice (some ⟨u.heap.size, 0, none⟩) n n) (u.alloc (.cells cur.toArray 5)) := by
  obtain ⟨i0, hi, hz0, hz1, hz2⟩ := info_parts info5
  refine ⟨(madeCells (Value.cells (.int .u8 0)) (n * i0.size)).toList, by rw [hz1]; simp [madeCells], fun u => ?_⟩
  have hr := run_make (P := Tryz.prog) u 37 5 i0 (.int .u8 0) Tryz.underlying37 hi hz0 .i64 .i64 (n : Int) (n : Int) (by omega) (Int.le_refl _) (by rw [hz2]; omega) (by omega)
  rw [Int.toNat_natCast] at hr
  exact hr
theorem copied_u8 (xs : List Value) (A : Option Addr) (n c : Nat) (w : World) (hn : xs.length = n * 1) (h1 : ∀ v ∈ xs, v.oneCell' = true) (hr : Rd w w.heap.size A xs) (h : n ≤ 65536) :
    Calls Tryz.prog 106 #[.slice A n c] w fun e w' => e = .returned (.slice (some ⟨w.heap.size, 0, none⟩) n n) ∧ w' = w.alloc (.cells xs.toArray 5) := by
  obtain ⟨cur, hcur, hmk⟩ := made_u8 n h
  have hsrc := Lib.hid (hr.below (al_below w (.cells cur.toArray 5)))
  have Hn := Lib.hid hn
  have Hc := Lib.hid hcur
  have H1 := Lib.hid h1
  clear hn h1 hr hcur
  go_enter Tryz.func106, Tryz.ntmps106
  go_wp2_with (refine wpList_copy_rd rfl (.tmp 7) (.tmp 8) 37 37 rfl 5 1 Tryz.underlying37 size_u8 (by omega) w.heap.size n n w.heap.size A c rfl rfl cur 5 (heap_alloc_new w _) xs Hn.out Hc.out hsrc.out H1.out ?_; intro w3 h3; have h3 := ends_copy h3.out; subst h3)
  go_ret
  exact ⟨rfl, rfl⟩

theorem made_ino (n : Nat) (h : n ≤ 65536) : ∃ cur : List Value, cur.length = n * 14 ∧ ∀ u : World, (Instr.makeSlice 58 (.int .i64 (n : Int)) (.int .i64 (n : Int))).run Tryz.prog u =
    .ok (.slice (some ⟨u.heap.size, 0, none⟩) n n) (u.alloc (.cells cur.toArray 40)) := by
  obtain ⟨i0, hi, hz0, hz1, hz2⟩ := info_parts info_ino
  refine ⟨(madeCells (Value.cells (.agg (Inode.cellsI .z).toArray)) (n * i0.size)).toList, by rw [hz1]; simp [madeCells], fun u => ?_⟩
  have hr := run_make (P := Tryz.prog) u 58 40 i0 (.agg (Inode.cellsI .z).toArray) Tryz.underlying58 hi hz0 .i64 .i64 (n : Int) (n : Int) (by omega) (Int.le_refl _) (by rw [hz2]; omega) (by omega)
  rw [Int.toNat_natCast] at hr
  exact hr
theorem copied_ino (xs : List Value) (A : Option Addr) (n c : Nat) (w : World) (hn : xs.length = n * 14) (h1 : ∀ v ∈ xs, v.oneCell' = true) (hr : Rd w w.heap.size A xs) (h : n ≤ 65536) :
    Calls Tryz.prog 139 #[.slice A n c] w fun e w' => e = .returned (.slice (some ⟨w.heap.size, 0, none⟩) n n) ∧ w' = w.alloc (.cells xs.toArray 40) := by
  obtain ⟨cur, hcur, hmk⟩ := made_ino n h
  have hsrc := Lib.hid (hr.below (al_below w (.cells cur.toArray 40)))
  have Hn := Lib.hid hn
  have Hc := Lib.hid hcur
  have H1 := Lib.hid h1
  clear hn h1 hr hcur
  go_enter Tryz.func139, Tryz.ntmps139
  go_wp2_with (refine wpList_copy_rd rfl (.tmp 7) (.tmp 8) 58 58 rfl 40 14 Tryz.underlying58 size_inode (by omega) w.heap.size n n w.heap.size A c rfl rfl cur 40 (heap_alloc_new w _) xs Hn.out Hc.out hsrc.out H1.out ?_; intro w3 h3; have h3 := ends_copy h3.out; subst h3)
  go_ret
  exact ⟨rfl, rfl⟩
end Go.Proofs.YtcjkbmmjpkghlaaGreat.Meta

/-
  Package meta: the owners' bytes, there and back.
-/
namespace Go.Proofs.YtcjkbmmjpkghlaaGreat.Meta
open Go.Proofs.YtcjkbmmjpkghlaaGreat
open Go.RowKit

theorem byteV_set (l : List UInt8) (a : Nat) (y : UInt8) : (bytesV l).set a (.int .u8 (y.toNat : Int)) = bytesV (l.set a y) := by
  unfold bytesV
  rw [List.map_set]
  rfl
theorem intV_set (l : List Int) (a : Nat) (y : Int) : (Inode.intsV l).set a (.int .i64 y) = Inode.intsV (l.set a y) := by
  unfold Inode.intsV
  rw [List.map_set]
/-- The owners' bytes so far, and those to come. -/
def ownQ (l : List Int) (n a : Nat) : List UInt8 := ownL (l.take a) ++ List.replicate (n - a) 0
theorem ownQ_zero (l : List Int) (n : Nat) : ownQ l n 0 = List.replicate n 0 := by simp [ownQ, ownL]
theorem length_ownQ {l : List Int} {n a : Nat} (ha : a ≤ n) (hl : a ≤ l.length) : (ownQ l n a).length = n := by simp [ownQ, ownL]; omega
theorem ownQ_step {l : List Int} {n a : Nat} {x : Int} {y : UInt8} (ha : a < n) (hx : l[a]? = some x) (hy : UInt8.ofNat x.toNat = y) : (ownQ l n a).set a y = ownQ l n (a + 1) := by
  have hl := (List.getElem?_eq_some_iff.1 hx).1
  have h1 : (ownL (l.take a)).length = a := by simp [ownL]; omega
  unfold ownQ
  rw [List.set_append_right _ _ (by rw [h1]; exact Nat.le_refl _), h1, Nat.sub_self, show n - a = n - (a + 1) + 1 by omega, List.replicate_succ, List.set_cons_zero, ownL_step hx, hy]
  simp
theorem ownQ_all {l : List Int} {n : Nat} (h : l.length = n) : ownQ l n n = ownL l := by subst h; simp [ownQ]
set_option maxHeartbeats 1600000 in
theorem layown_any (l : List Int) (hok : ∀ x ∈ l, 0 ≤ x ∧ x ≤ 16) (A : Option Addr) (n c : Nat) (w : World) (hn : l.length = n) (hr : Rd w w.heap.size A (Inode.intsV l)) (hm : n ≤ 64) :
    Calls Tryz.prog 105 #[.slice A n c] w fun e w' => ∃ v, e = .returned v ∧ Made w (padl (ownL l) 64) v w' := by
  have hmk := make_bytes n (by omega)
  have Hn := Lib.hid hn
  have Hr := Lib.hid hr
  have HOK := Lib.hid hok
  have HFI : Hid (∀ (u : World) (A : Option Addr) (c : Nat), Rd u u.heap.size A (bytesV (ownL l)) → Calls Tryz.prog 155 #[.slice A n c, .int .i64 64] u fun e w' => ∃ v, e = .returned (.tuple #[v, .int .i64 0]) ∧ Made u (padl (ownL l) 64) v w') := Lib.hid (fun u A c h => fill_ok (ownL l) A n c 64 u (by rw [length_ownL, hn]) h hm (by omega))
  clear hn hr hok
  have hn0 : (0 : Int) ≤ (n : Int) := by omega
  go_enter Tryz.func105, Tryz.ntmps105
  go_wp2
  clear hmk
  have hk0 : Hid (Bk (w.alloc (.cells (bytesV (List.replicate n 0)).toArray 5)) w.heap.size 5 (bytesV (ownQ l n 0))) := Lib.hid (by rw [ownQ_zero]; exact Bk.new w 5 _)
  have hb0 := Lib.hid (al_below w (.cells (bytesV (List.replicate n 0)).toArray 5))
  go_loopw [4, 5, 11] (fun _ _ i wr => ∃ a : Nat, i = .int .i64 (a : Int) ∧ a ≤ n ∧ Hid (Bk wr w.heap.size 5 (bytesV (ownQ l n a))) ∧ Hid (Below w.heap.size w wr)) (fun _ _ i _ => n - (intOf i).toNat)
  case atStart => exact ⟨0, rfl, Nat.zero_le _, hk0, hb0⟩
  case round =>
    obtain ⟨a, rfl, ha, HK, HB⟩ := hrel
    by_cases hlt : a < n
    · obtain ⟨x, hx⟩ : ∃ x, l[a]? = some x := ⟨_, List.getElem?_eq_getElem (by rw [Hn.out]; exact hlt)⟩
      obtain ⟨b, o, hA, hb⟩ := rd_first Hr.out (by rw [Inode.length_intsV, Hn.out]; omega)
      subst hA
      have hcx := rd_int (Hr.out.below HB.out) hx
      have hxy := own_byte (HOK.out x (List.mem_of_getElem? hx))
      obtain ⟨y, hy⟩ : ∃ y : UInt8, UInt8.ofNat x.toNat = y := ⟨_, rfl⟩
      have hst := ownQ_step hlt hx hy
      rw [hy] at hxy
      rw [hxy] at hcx
      have hyw : IntKind.u8.wrap (y.toNat : Int) = (y.toNat : Int) := by have := y.toNat_lt; rw [IntKind.wrap_u8]; omega
      have hset := HK.out.set a (.int .u8 (y.toNat : Int))
      rw [byteV_set, hst] at hset
      have HK2 := Lib.hid hset
      have HB2 := Lib.hid (HB.out.setCell (p := ⟨w.heap.size, a, none⟩) (Nat.le_refl _) (.int .u8 (y.toNat : Int)))
      have hlti : (a : Int) < (n : Int) := by omega
      have ha0 : (0 : Int) ≤ (a : Int) := by omega
      have hcell : ∃ u, wr.cell? ⟨w.heap.size, a, none⟩ = some u := ⟨_, (HK.out.cell a).trans (List.getElem?_eq_getElem (by rw [length_bytesV, length_ownQ ha (by rw [Hn.out]; exact ha)]; exact hlt))⟩
      obtain ⟨u0, hcell⟩ := hcell
      have hfro := HK.out.frozen a
      have hltw := HK.out.lt
      clear hx hst hset hxy hy
      go_wp2
      go_roundw
      case rel => exact ⟨a + 1, by go_num, hlt, HK2, HB2⟩
      case measure => simp [intOf]; omega
    · obtain rfl : n = a := by omega
      rw [ownQ_all Hn.out] at HK
      have hrd := HK.out.rd n 0
      rw [List.drop_zero, List.take_of_length_le (by rw [length_bytesV, length_ownL, Hn.out]; exact Nat.le_refl _)] at hrd
      have HRD := Lib.hid hrd
      clear hrd hlt
      go_wp2_with (go_at_call 155; (with_reducible refine (HFI.out _ _ _ HRD.out).mono ?_); rintro e w3 ⟨v9, he, ho9, hb⟩; obtain rfl := he; have HO9 := Lib.hid (own_mono ho9 HB.out.size); have HB9 := Lib.hid (HB.out.trans (hb.mono HB.out.size)); clear hb ho9)
      go_ret
      exact ⟨v9, rfl, HO9.out, HB9.out⟩
/-- The owners so far, and those to come. -/
def ownR (l : List UInt8) (n a : Nat) : List Int := (l.take a).map byI ++ List.replicate (n - a) 0
theorem ownR_zero (l : List UInt8) (n : Nat) : ownR l n 0 = List.replicate n 0 := by simp [ownR]
theorem length_ownR {l : List UInt8} {n a : Nat} (ha : a ≤ n) (hl : a ≤ l.length) : (ownR l n a).length = n := by simp [ownR]; omega
theorem ownR_step {l : List UInt8} {n a : Nat} {y : UInt8} (ha : a < n) (hy : l[a]? = some y) : (ownR l n a).set a (y.toNat : Int) = ownR l n (a + 1) := by
  have hl := (List.getElem?_eq_some_iff.1 hy).1
  have h1 : ((l.take a).map byI).length = a := by simp; omega
  unfold ownR
  rw [List.set_append_right _ _ (by rw [h1]; exact Nat.le_refl _), h1, Nat.sub_self, show n - a = n - (a + 1) + 1 by omega, List.replicate_succ, List.set_cons_zero, List.take_add_one, hy]
  simp [byI]
theorem ownR_all {l : List UInt8} {n : Nat} (h : l.length = n) : ownR l n n = l.map byI := by subst h; simp [ownR]
set_option maxHeartbeats 1600000 in
theorem takeown_any (l : List UInt8) (A : Option Addr) (n c : Nat) (w : World) (hn : l.length = n) (hr : Rd w w.heap.size A (bytesV l)) (hm : n ≤ 64) :
    Calls Tryz.prog 123 #[.slice A n c] w fun e w' => e = .returned (.slice (some ⟨w.heap.size, 0, none⟩) n n) ∧ Bk w' w.heap.size 3 (Inode.intsV (l.map byI)) ∧ Below w.heap.size w w' := by
  have hmk := Inode.make_ints n (by omega)
  have Hn := Lib.hid hn
  have Hr := Lib.hid hr
  clear hn hr
  have hn0 : (0 : Int) ≤ (n : Int) := by omega
  go_enter Tryz.func123, Tryz.ntmps123
  go_wp2
  clear hmk
  have hk0 : Hid (Bk (w.alloc (.cells (Inode.intsV (List.replicate n 0)).toArray 3)) w.heap.size 3 (Inode.intsV (ownR l n 0))) := Lib.hid (by rw [ownR_zero]; exact Bk.new w 3 _)
  have hb0 := Lib.hid (al_below w (.cells (Inode.intsV (List.replicate n 0)).toArray 3))
  go_loopw [4, 5, 11] (fun _ _ i wr => ∃ a : Nat, i = .int .i64 (a : Int) ∧ a ≤ n ∧ Hid (Bk wr w.heap.size 3 (Inode.intsV (ownR l n a))) ∧ Hid (Below w.heap.size w wr)) (fun _ _ i _ => n - (intOf i).toNat)
  case atStart => exact ⟨0, rfl, Nat.zero_le _, hk0, hb0⟩
  case round =>
    obtain ⟨a, rfl, ha, HK, HB⟩ := hrel
    by_cases hlt : a < n
    · obtain ⟨y, hy⟩ : ∃ y, l[a]? = some y := ⟨_, List.getElem?_eq_getElem (by rw [Hn.out]; exact hlt)⟩
      obtain ⟨b, o, hA, hb⟩ := rd_first Hr.out (by rw [length_bytesV, Hn.out]; omega)
      subst hA
      have hcx := rd_u8 (Hr.out.below HB.out) hy
      have hst := ownR_step hlt hy
      have hyw : IntKind.i64.wrap (y.toNat : Int) = (y.toNat : Int) := by have := y.toNat_lt; rw [IntKind.wrap_i64]; omega
      have hset := HK.out.set a (.int .i64 (y.toNat : Int))
      rw [intV_set, hst] at hset
      have HK2 := Lib.hid hset
      have HB2 := Lib.hid (HB.out.setCell (p := ⟨w.heap.size, a, none⟩) (Nat.le_refl _) (.int .i64 (y.toNat : Int)))
      have hlti : (a : Int) < (n : Int) := by omega
      have ha0 : (0 : Int) ≤ (a : Int) := by omega
      have hcell : ∃ u, wr.cell? ⟨w.heap.size, a, none⟩ = some u := ⟨_, (HK.out.cell a).trans (List.getElem?_eq_getElem (by rw [Inode.length_intsV, length_ownR ha (by rw [Hn.out]; exact ha)]; exact hlt))⟩
      obtain ⟨u0, hcell⟩ := hcell
      have hfro := HK.out.frozen a
      have hltw := HK.out.lt
      clear hy hst hset
      go_wp2
      go_roundw
      case rel => exact ⟨a + 1, by go_num, hlt, HK2, HB2⟩
      case measure => simp [intOf]; omega
    · obtain rfl : n = a := by omega
      rw [ownR_all Hn.out] at HK
      go_wp2
      go_ret
      exact ⟨rfl, HK.out, HB.out⟩
end Go.Proofs.YtcjkbmmjpkghlaaGreat.Meta

/-
  slices.Chunk over inodes, two at a time, and over bytes, 32 at a time: its closure's contract.
-/
namespace Go.Proofs.YtcjkbmmjpkghlaaGreat.Meta
open Go.Proofs.YtcjkbmmjpkghlaaGreat
open Go.RowKit Go.Shelf

attribute [local go_sem] Oper.semAt_some

/-- The two boxes that the closure reads lie as they lay. -/
def Two (B1 B2 : Nat) (W W' : World) : Prop := W'.heap[B1]? = W.heap[B1]? ∧ W'.heap[B2]? = W.heap[B2]?
theorem Two.refl (B1 B2 : Nat) (W : World) : Two B1 B2 W W := ⟨rfl, rfl⟩
theorem Two.trans {B1 B2 : Nat} {A B C : World} (h : Two B1 B2 A B) (k : Two B1 B2 B C) : Two B1 B2 A C := ⟨k.1.trans h.1, k.2.trans h.2⟩
theorem Two.drew {B1 B2 : Nat} {A B : World} (h : Two B1 B2 A B) : Two B1 B2 A B.drew := h
theorem Two.one {B1 B2 : Nat} {A B : World} (h : Two B1 B2 A B) : B.cell? ⟨B1, 0, none⟩ = A.cell? ⟨B1, 0, none⟩ := World.cell?_of_block (a := ⟨B1, 0, none⟩) h.1
theorem Two.two {B1 B2 : Nat} {A B : World} (h : Two B1 B2 A B) : B.cell? ⟨B2, 0, none⟩ = A.cell? ⟨B2, 0, none⟩ := World.cell?_of_block (a := ⟨B2, 0, none⟩) h.2
theorem Two.below {B1 B2 B : Nat} {W W' : World} (h : Below B W W') (h1 : B1 < B) (h2 : B2 < B) : Two B1 B2 W W' := ⟨h.block B1 h1, h.block B2 h2⟩
/-- The value of a chunk. -/
def chunkVI (b o m c : Nat) : Value := .slice (some ⟨b, o + 2 * c * 14, none⟩) (min 2 (m - 2 * c)) (min 2 (m - 2 * c))

set_option maxRecDepth 100000 in
set_option maxHeartbeats 2000000 in
theorem chunk1_inI (n : Nat) (hn : 1 ≤ n) (l B1 B2 b o m cp : Nat) (hm : m ≤ 1000000) (hcp : m ≤ cp) (J Jx : List Nat → World → Prop) (hJd : ∀ pre W, J pre W → J pre W.drew)
    (hY : ∀ pre x W, J pre W → 2 * pre.length < m → 2 * x < m → YieldAt Fence.wide (n - 1) Tryz.prog l #[chunkVI b o m x] W fun e W' =>
      (e = .returned (.bool true) ∧ J (pre ++ [x]) W' ∧ Two B1 B2 W W') ∨ (e = .returned (.bool false) ∧ Jx (pre ++ [x]) W'))
    (W : World) (h1 : W.cell? ⟨B1, 0, none⟩ = some (.slice (some ⟨b, o, none⟩) m cp)) (h2 : W.cell? ⟨B2, 0, none⟩ = some (.int .i64 2)) (h0 : J [] W) :
    CallsIn Fence.wide n Tryz.prog 199 #[.func (.yield l) #[] #[], .pointer (some ⟨B1, 0, none⟩), .pointer (some ⟨B2, 0, none⟩)] W fun e W' => (∃ v, e = .returned v) ∧
      ((∃ ys, ys = List.range ((m + 1) / 2) ∧ J ys W') ∨ (∃ pre, True ∧ Jx pre W')) := by
  refine callsIn_of_wp Tryz.func199 rfl trivial ?_ rfl
  simp only [Tryz.ntmps199, List.size_toArray, List.length_cons, List.length_nil, Nat.reduceAdd, Nat.reduceSub, Array.replicate_succ, Array.replicate_zero, List.push_toArray, List.append_toArray, List.nil_append, List.cons_append]
  gi_wp2
  gi_loopw [4, 5] (fun i _ wr => ∃ k : Nat, (k = 0 ∨ 2 * (k - 1) < m) ∧ i = .int .i64 ((2 * k : Nat) : Int) ∧ J (List.range k) wr ∧ Two B1 B2 W wr)
    (fun i _ _ => m - (intOf i).toNat)
  case atStart => exact ⟨0, .inl rfl, rfl, h0, Two.refl _ _ _⟩
  case round =>
    obtain ⟨k, hk, rfl, hJs, hnx⟩ := hrel
    have c1 := hnx.one.trans h1
    have c2 := hnx.two.trans h2
    obtain ⟨i, hi⟩ : ∃ i, i = 2 * k := ⟨_, rfl⟩
    rw [← hi]
    have Hi := Lib.hid hi
    have HJ := Lib.hid hJs
    have Hnx := Lib.hid hnx
    have Hk := Lib.hid hk
    clear hi hJs hnx hk
    by_cases hlt : i < m
    · obtain ⟨fn, tmps, assign, body, hy, hR⟩ := hY (List.range k) k wr.drew (hJd _ _ HJ.out) (by rw [List.length_range]; have := Hi.out; omega) (by have := Hi.out; omega)
      obtain ⟨e, he⟩ : ∃ e : Nat, e = min 2 (m - i) := ⟨_, rfl⟩
      have hif : (if ((m - i : Nat) : Int) < 2 then ((m - i : Nat) : Int) else 2) = (e : Int) := by
        split <;> omega
      have hchunk : chunkVI b o m k = .slice (some ⟨b, o + i * 14, none⟩) e e := by
        unfold chunkVI
        rw [← Hi.out, ← he]
      rw [hchunk] at hy
      have hei : (i : Int) + (e : Int) ≤ (m : Int) := by omega
      have he1 : 0 < e := by omega
      have He := Lib.hid he
      have Hif := Lib.hid hif
      clear hchunk he hif
      gi_wp2
      gi_region
      all_goals rw [Hif.out]
      all_goals gi_wp2
      refine hR.mono ?_
      rintro e W3 (⟨rfl, hJ3, hk3⟩ | ⟨rfl, hJx3⟩)
      · have c3 := hk3.two.trans c2
        have A1 : Hid (J (List.range (k + 1)) W3) := by
          show J _ _
          rw [List.range_succ]; exact hJ3
        have A2 : Hid (Two B1 B2 W W3) := Hnx.out.drew.trans hk3
        clear hJ3 hk3 c1 c2
        have hch : (i : Int) + 2 = ((2 * (k + 1) : Nat) : Int) := by have := Hi.out; omega
        have Hch := Lib.hid hch
        clear hch
        gi_wp2
        go_roundw
        case rel => exact ⟨k + 1, .inr (by have := Hi.out; omega), by rw [Hch.out], A1.out, A2.out⟩
        case measure => simp [intOf]; omega
      · gi_wp2
        refine bodyPost_ret (results_none rfl _ _ _) rfl ?_
        exact ⟨⟨_, rfl⟩, .inr ⟨_, trivial, hJx3⟩⟩
    · have hkk : k = (m + 1) / 2 := by have := Hi.out; have := Hk.out; omega
      gi_wp2
      go_end0
      exact ⟨⟨_, rfl⟩, .inl ⟨_, by rw [hkk], HJ.out⟩⟩

/-- slices.Chunk(l, 2). -/
theorem chunk_inI (n : Nat) (A : Option Addr) (m c : Nat) (w : World) :
    CallsIn Fence.wide n Tryz.prog 164 #[.slice A m c, .int .i64 2] w fun e w' => e = .returned (.func (.func 199) #[] #[.pointer (some ⟨w.heap.size, 0, none⟩), .pointer (some ⟨w.heap.size + 1, 0, none⟩)]) ∧
      w' = (w.alloc (.cells #[.slice A m c] 58)).alloc (.cells #[.int .i64 2] 3) := by
  refine callsIn_of_wp Tryz.func164 rfl trivial ?_ rfl
  simp only [Tryz.ntmps164, List.size_toArray, List.length_cons, List.length_nil, Nat.reduceAdd, Nat.reduceSub, Array.replicate_succ, Array.replicate_zero, List.push_toArray, List.append_toArray, List.nil_append, List.cons_append]
  gi_wp2
  go_ret
  exact ⟨rfl, rfl⟩

theorem chunk_stopsI (n : Nat) (hn : 1 ≤ n) (B1 B2 b o m cp : Nat) (hm : m ≤ 1000000) (hcp : m ≤ cp) (w : World) (hB1 : B1 < w.heap.size) (hB2 : B2 < w.heap.size)
    (h1 : w.cell? ⟨B1, 0, none⟩ = some (.slice (some ⟨b, o, none⟩) m cp)) (h2 : w.cell? ⟨B2, 0, none⟩ = some (.int .i64 2)) :
    SeqStopsK Fence.wide n Tryz.prog 199 #[.pointer (some ⟨B1, 0, none⟩), .pointer (some ⟨B2, 0, none⟩)] (fun x : { c : Nat // 2 * c < m } => #[chunkVI b o m x.1]) (Two B1 B2)
      (fun ys => ys.map (·.1) = List.range ((m + 1) / 2)) (fun _ => True) ((m + 1) / 2) w := fun l J Jx W hW hJ hJx hY h0 => by
  refine (chunk1_inI n hn l B1 B2 b o m cp hm hcp (fun ys W => ∃ xs : List { c : Nat // 2 * c < m }, xs.map (·.1) = ys ∧ J xs W) (fun ys W => ∃ xs, Jx xs W)
    (fun ys W ⟨xs, h, hj⟩ => ⟨xs, h, hJ _ _ W.drew none hj ⟨rfl, rfl, rfl, Nat.le_refl _, fun _ _ _ => rfl⟩ (fun r e => by cases e)⟩) ?_ W ((hW.cell (p := ⟨B1, 0, none⟩) hB1).trans h1) ((hW.cell (p := ⟨B2, 0, none⟩) hB2).trans h2) ⟨[], rfl, h0⟩).mono ?_
  · rintro pre x W1 ⟨xs, hxs, hj⟩ hlen hx
    have hl : xs.length = pre.length := by rw [← hxs, List.length_map]
    obtain ⟨fn, tmps, assign, body, hy, hR⟩ := hY xs ⟨x, hx⟩ W1 hj (by omega)
    refine ⟨fn, tmps, assign, body, hy, hR.mono ?_⟩
    rintro e W' (⟨rfl, h3, h4⟩ | ⟨rfl, h3⟩)
    · exact .inl ⟨rfl, ⟨xs ++ [⟨x, hx⟩], by rw [List.map_append, hxs]; rfl, h3⟩, h4⟩
    · exact .inr ⟨rfl, _, h3⟩
  · rintro e W' ⟨he, ⟨ys, rfl, xs, hx, hj⟩ | ⟨_, _, xs, hj⟩⟩
    · exact ⟨he, .inl ⟨xs, hx, hj⟩⟩
    · exact ⟨he, .inr ⟨xs, trivial, hj⟩⟩
/-- The value of a chunk. -/
def chunkVB (b o m c : Nat) : Value := .slice (some ⟨b, o + 32 * c, none⟩) (min 32 (m - 32 * c)) (min 32 (m - 32 * c))

set_option maxRecDepth 100000 in
set_option maxHeartbeats 2000000 in
theorem chunk1_inB (n : Nat) (hn : 1 ≤ n) (l B1 B2 b o m cp : Nat) (hm : m ≤ 1000000) (hcp : m ≤ cp) (J Jx : List Nat → World → Prop) (hJd : ∀ pre W, J pre W → J pre W.drew)
    (hY : ∀ pre x W, J pre W → 32 * pre.length < m → 32 * x < m → YieldAt Fence.wide (n - 1) Tryz.prog l #[chunkVB b o m x] W fun e W' =>
      (e = .returned (.bool true) ∧ J (pre ++ [x]) W' ∧ Two B1 B2 W W') ∨ (e = .returned (.bool false) ∧ Jx (pre ++ [x]) W'))
    (W : World) (h1 : W.cell? ⟨B1, 0, none⟩ = some (.slice (some ⟨b, o, none⟩) m cp)) (h2 : W.cell? ⟨B2, 0, none⟩ = some (.int .i64 32)) (h0 : J [] W) :
    CallsIn Fence.wide n Tryz.prog 210 #[.func (.yield l) #[] #[], .pointer (some ⟨B1, 0, none⟩), .pointer (some ⟨B2, 0, none⟩)] W fun e W' => (∃ v, e = .returned v) ∧
      ((∃ ys, ys = List.range ((m + 31) / 32) ∧ J ys W') ∨ (∃ pre, True ∧ Jx pre W')) := by
  refine callsIn_of_wp Tryz.func210 rfl trivial ?_ rfl
  simp only [Tryz.ntmps210, List.size_toArray, List.length_cons, List.length_nil, Nat.reduceAdd, Nat.reduceSub, Array.replicate_succ, Array.replicate_zero, List.push_toArray, List.append_toArray, List.nil_append, List.cons_append]
  gi_wp2
  gi_loopw [4, 5] (fun i _ wr => ∃ k : Nat, (k = 0 ∨ 32 * (k - 1) < m) ∧ i = .int .i64 ((32 * k : Nat) : Int) ∧ J (List.range k) wr ∧ Two B1 B2 W wr)
    (fun i _ _ => m - (intOf i).toNat)
  case atStart => exact ⟨0, .inl rfl, rfl, h0, Two.refl _ _ _⟩
  case round =>
    obtain ⟨k, hk, rfl, hJs, hnx⟩ := hrel
    have c1 := hnx.one.trans h1
    have c2 := hnx.two.trans h2
    obtain ⟨i, hi⟩ : ∃ i, i = 32 * k := ⟨_, rfl⟩
    rw [← hi]
    have Hi := Lib.hid hi
    have HJ := Lib.hid hJs
    have Hnx := Lib.hid hnx
    have Hk := Lib.hid hk
    clear hi hJs hnx hk
    by_cases hlt : i < m
    · obtain ⟨fn, tmps, assign, body, hy, hR⟩ := hY (List.range k) k wr.drew (hJd _ _ HJ.out) (by rw [List.length_range]; have := Hi.out; omega) (by have := Hi.out; omega)
      obtain ⟨e, he⟩ : ∃ e : Nat, e = min 32 (m - i) := ⟨_, rfl⟩
      have hif : (if ((m - i : Nat) : Int) < 32 then ((m - i : Nat) : Int) else 32) = (e : Int) := by
        split <;> omega
      have hchunk : chunkVB b o m k = .slice (some ⟨b, o + i, none⟩) e e := by
        unfold chunkVB
        rw [← Hi.out, ← he]
      rw [hchunk] at hy
      have hei : (i : Int) + (e : Int) ≤ (m : Int) := by omega
      have he1 : 0 < e := by omega
      have He := Lib.hid he
      have Hif := Lib.hid hif
      clear hchunk he hif
      gi_wp2
      gi_region
      all_goals rw [Hif.out]
      all_goals gi_wp2
      refine hR.mono ?_
      rintro e W3 (⟨rfl, hJ3, hk3⟩ | ⟨rfl, hJx3⟩)
      · have c3 := hk3.two.trans c2
        have A1 : Hid (J (List.range (k + 1)) W3) := by
          show J _ _
          rw [List.range_succ]; exact hJ3
        have A2 : Hid (Two B1 B2 W W3) := Hnx.out.drew.trans hk3
        clear hJ3 hk3 c1 c2
        have hch : (i : Int) + 32 = ((32 * (k + 1) : Nat) : Int) := by have := Hi.out; omega
        have Hch := Lib.hid hch
        clear hch
        gi_wp2
        go_roundw
        case rel => exact ⟨k + 1, .inr (by have := Hi.out; omega), by rw [Hch.out], A1.out, A2.out⟩
        case measure => simp [intOf]; omega
      · gi_wp2
        refine bodyPost_ret (results_none rfl _ _ _) rfl ?_
        exact ⟨⟨_, rfl⟩, .inr ⟨_, trivial, hJx3⟩⟩
    · have hkk : k = (m + 31) / 32 := by have := Hi.out; have := Hk.out; omega
      gi_wp2
      go_end0
      exact ⟨⟨_, rfl⟩, .inl ⟨_, by rw [hkk], HJ.out⟩⟩

/-- slices.Chunk(l, 32). -/
theorem chunk_inB (n : Nat) (A : Option Addr) (m c : Nat) (w : World) :
    CallsIn Fence.wide n Tryz.prog 180 #[.slice A m c, .int .i64 32] w fun e w' => e = .returned (.func (.func 210) #[] #[.pointer (some ⟨w.heap.size, 0, none⟩), .pointer (some ⟨w.heap.size + 1, 0, none⟩)]) ∧
      w' = (w.alloc (.cells #[.slice A m c] 37)).alloc (.cells #[.int .i64 32] 3) := by
  refine callsIn_of_wp Tryz.func180 rfl trivial ?_ rfl
  simp only [Tryz.ntmps180, List.size_toArray, List.length_cons, List.length_nil, Nat.reduceAdd, Nat.reduceSub, Array.replicate_succ, Array.replicate_zero, List.push_toArray, List.append_toArray, List.nil_append, List.cons_append]
  gi_wp2
  go_ret
  exact ⟨rfl, rfl⟩

theorem chunk_stopsB (n : Nat) (hn : 1 ≤ n) (B1 B2 b o m cp : Nat) (hm : m ≤ 1000000) (hcp : m ≤ cp) (w : World) (hB1 : B1 < w.heap.size) (hB2 : B2 < w.heap.size)
    (h1 : w.cell? ⟨B1, 0, none⟩ = some (.slice (some ⟨b, o, none⟩) m cp)) (h2 : w.cell? ⟨B2, 0, none⟩ = some (.int .i64 32)) :
    SeqStopsK Fence.wide n Tryz.prog 210 #[.pointer (some ⟨B1, 0, none⟩), .pointer (some ⟨B2, 0, none⟩)] (fun x : { c : Nat // 32 * c < m } => #[chunkVB b o m x.1]) (Two B1 B2)
      (fun ys => ys.map (·.1) = List.range ((m + 31) / 32)) (fun _ => True) ((m + 31) / 32) w := fun l J Jx W hW hJ hJx hY h0 => by
  refine (chunk1_inB n hn l B1 B2 b o m cp hm hcp (fun ys W => ∃ xs : List { c : Nat // 32 * c < m }, xs.map (·.1) = ys ∧ J xs W) (fun ys W => ∃ xs, Jx xs W)
    (fun ys W ⟨xs, h, hj⟩ => ⟨xs, h, hJ _ _ W.drew none hj ⟨rfl, rfl, rfl, Nat.le_refl _, fun _ _ _ => rfl⟩ (fun r e => by cases e)⟩) ?_ W ((hW.cell (p := ⟨B1, 0, none⟩) hB1).trans h1) ((hW.cell (p := ⟨B2, 0, none⟩) hB2).trans h2) ⟨[], rfl, h0⟩).mono ?_
  · rintro pre x W1 ⟨xs, hxs, hj⟩ hlen hx
    have hl : xs.length = pre.length := by rw [← hxs, List.length_map]
    obtain ⟨fn, tmps, assign, body, hy, hR⟩ := hY xs ⟨x, hx⟩ W1 hj (by omega)
    refine ⟨fn, tmps, assign, body, hy, hR.mono ?_⟩
    rintro e W' (⟨rfl, h3, h4⟩ | ⟨rfl, h3⟩)
    · exact .inl ⟨rfl, ⟨xs ++ [⟨x, hx⟩], by rw [List.map_append, hxs]; rfl, h3⟩, h4⟩
    · exact .inr ⟨rfl, _, h3⟩
  · rintro e W' ⟨he, ⟨ys, rfl, xs, hx, hj⟩ | ⟨_, _, xs, hj⟩⟩
    · exact ⟨he, .inl ⟨xs, hx, hj⟩⟩
    · exact ⟨he, .inr ⟨xs, trivial, hj⟩⟩
end Go.Proofs.YtcjkbmmjpkghlaaGreat.Meta

/-
  Package meta: the inodes' sectors.
-/
namespace Go.Proofs.YtcjkbmmjpkghlaaGreat.Meta
open Go.Proofs.YtcjkbmmjpkghlaaGreat
open Go.RowKit Go.Shelf

attribute [local go_sem] Oper.semAt_some

theorem wpListIn_load_mid {F : Fence} {n : Nat} {P : Program} {ops : Array Oper} {rest : List Oper} {op : Oper} {a : Act} {w : World} {Q : Exit → Act → World → Prop} (hgd : op.guard = none) (ty : TypeId) (x : Operand) (ho : op.op = .load ty x)
    (b o : Nat) (hx : a.eval x = .pointer (some ⟨b, o, none⟩)) (cs : List Value) (d : TypeDesc) (hc : w.rangeAt b o cs)
    (hu : P.underlying ty = some d) (hd : d.isRow = true) (hi : (P.info? ty).map (·.size) = some cs.length)
    (h : wpListIn F n P ops Q rest (a.put op.dst (.agg cs.toArray)) w) : wpListIn F n P ops Q (op :: rest) a w := by
  refine wpListIn_plain hgd fun K hK => ?_
  unfold Oper.wpIn
  refine ⟨?_, ?_⟩
  · simp [Oper.about, ho]
  · rw [Oper.semAt_plain F _ _ (by rw [ho]; intro c hc'; cases hc')]
    unfold execOp
    simp only [ho, hx, Instr.loadAt, Instr.sureAddr, Sem.run_bind, Sem.run_pure, Result.andThen_ok, run_loadVar_mid w b o ty cs d hc hu hd hi]
    exact hK _ _ h
theorem wpListIn_store_mid {F : Fence} {n : Nat} {P : Program} {ops : Array Oper} {rest : List Oper} {op : Oper} {a : Act} {w : World} {Q : Exit → Act → World → Prop} (hgd : op.guard = none) (ty : TypeId) (x y : Operand) (ho : op.op = .store ty x y)
    (b o : Nat) (cells : Array Value) (hx : a.eval x = .pointer (some ⟨b, o, none⟩)) (hy : a.eval y = .agg cells)
    (ht : w.there b o cells.size) (hi : (P.info? ty).map (·.size) = some cells.size) (h1 : cells.all (·.oneCell') = true)
    (h : wpListIn F n P ops Q rest (a.put op.dst undef) (w.setCells b o cells.toList)) : wpListIn F n P ops Q (op :: rest) a w := by
  refine wpListIn_plain hgd fun K hK => ?_
  unfold Oper.wpIn
  refine ⟨?_, ?_⟩
  · simp [Oper.about, ho]
  · rw [Oper.semAt_plain F _ _ (by rw [ho]; intro c hc'; cases hc')]
    unfold execOp
    simp only [ho, hx, hy, Instr.storeAt, Instr.sureAddr, Sem.run_bind, Sem.run_pure, Result.andThen_ok, run_storeVar_mid w b o ty cells ht hi h1]
    exact hK _ _ h
theorem wpListIn_append_run {F : Fence} {n : Nat} {P : Program} {w w' : World} {ops : Array Oper} {rest : List Oper} {o : Oper} {a : Act} {Q : Exit → Act → World → Prop} (hg : o.guard = none) (s x : Operand) (t : TypeId)
    (hop : o.op = Op.call { callee := Callee.builtin Builtin.append, args := #[s, x], argTypes := #[t, t] }) {v u r : Value} (hs : a.eval s = v) (hx : a.eval x = u) (hrun : (Builtin.append_ #[t, t] o.type #[v, u]).run P w = .ok r w') (h : wpListIn F n P ops Q rest (a.put o.dst r) w') :
    wpListIn F n P ops Q (o :: rest) a w := by
  refine wpListIn_plain hg fun K hK' => ?_
  unfold Oper.wpIn
  refine ⟨?_, ?_⟩
  · simp [Oper.about, hop, resolve, Target.leads, Sem.run_pure]
  · rw [Oper.semAt_plain F _ _ (by rw [hop]; intro c hc'; cases hc')]
    simp [execOp, hop, resolve, invoke, builtin, hs, hx, hrun, Result.andThen]
    exact hK' _ _ h
theorem own_nc {X Y : World} {base : Nat} {e : TypeId} {k n : Nat} {v : Value} {xs : List Value} {row : Option Nat} (h : X.ownsRow base e k v n xs) (hg : X.grownBy Y row) (hrow : ∀ r, row = some r → ∃ o : Obj, X.heap[r]? = some o ∧ o.isCells = false) : Y.ownsRow base e k v n xs := by
  refine h.kept hg ?_
  rcases h.2 with ⟨rfl, _⟩ | ⟨g, cap, cur, rfl, _, hgb, _⟩
  · exact .inl rfl
  · refine .inr fun e' => ?_
    obtain ⟨o, ho, hc⟩ := hrow g (by simpa [Value.ownBlock] using e'.symm)
    rw [hgb] at ho; cases ho; cases hc
/-- The variable that is boxed at Bs holds sectors of the call's own. -/
def HoldS (n₀ Bs : Nat) (l : List (List UInt8)) (W : World) : Prop := ∃ v L, Boxed W Bs 100 v ∧ SecsOwn W n₀ v L l
theorem holdS_own {β : Type} (n₀ Bs : Nat) (f : β → List (List UInt8)) : Own (fun s W => HoldS n₀ Bs (f s) W) := by
  rintro s X Y row ⟨v, L, hb, hs⟩ hg hrow
  refine ⟨v, L, hb.kept hg (fun e' => ?_), hs.len, own_nc hs.row hg hrow, fun i a b h1 h2 => own_nc (hs.each i a b h1 h2) hg hrow⟩
  obtain ⟨o, ho, hc⟩ := hrow Bs e'.symm
  rw [show X.heap[Bs]? = _ from hb] at ho; cases ho; cases hc
theorem two_get {l : List Inode.Ino} {x : Nat} (hev : l.length % 2 = 0) (h : 2 * x < l.length) : ∃ p q, l[2 * x]? = some p ∧ l[2 * x + 1]? = some q :=
  ⟨_, _, List.getElem?_eq_getElem h, List.getElem?_eq_getElem (by omega)⟩
/-- The sector of two inodes. -/
def secP (l : List Inode.Ino) (x : Nat) : List UInt8 := Inode.bytesI (l.getD (2 * x) .z) ++ Inode.bytesI (l.getD (2 * x + 1) .z)
theorem secP_at {l : List Inode.Ino} {x : Nat} {p q : Inode.Ino} (hp : l[2 * x]? = some p) (hq : l[2 * x + 1]? = some q) : secP l x = Inode.bytesI p ++ Inode.bytesI q := by
  unfold secP
  rw [List.getD_eq_getElem?_getD, List.getD_eq_getElem?_getD, hp, hq]
  rfl
theorem pairs_range {l : List Inode.Ino} (hev : l.length % 2 = 0) : (List.range ((l.length + 1) / 2)).map (secP l) = pairs l := by
  apply List.ext_getElem?
  intro i
  by_cases hi : i < l.length / 2
  · obtain ⟨a, b, h1, h2, h3⟩ := pairs_at (i := 2 * i) hev (by omega)
    rw [show 2 * i / 2 = i by omega] at h1 h2 h3
    rw [List.getElem?_map, List.getElem?_range (by omega), Option.map_some, secP_at h1 h2, h3]
  · rw [List.getElem?_eq_none (by simp; omega), List.getElem?_eq_none (by rw [length_pairs hev]; omega)]
theorem box_other {W w1 : World} {n₀ B k : Nat} {t e : TypeId} {size m : Nat} {v v' u : Value} {xs : List Value} {tmp : Obj} (hk : Boxed W k t u) (hte : t ≠ e) (hkB : k ≠ B) (hrow : W.ownsRow n₀ e size v m xs) (hgrow : (W.alloc tmp).grownBy w1 v.ownBlock) :
    (w1.setCell ⟨B, 0, none⟩ v').heap[k]? = W.heap[k]? :=
  (Below.heap_setCell w1 ⟨B, 0, none⟩ v' k hkB).trans (((hk.alloc tmp).kept hgrow (hk.not_row hte hrow)).trans hk.symm)
theorem twoLt {W3 W : World} {k : Nat} {t : TypeId} {u : Value} (h : W.heap[k]? = W3.heap[k]?) (hb : Boxed W3 k t u) : k < W.heap.size := (Array.getElem?_eq_some_iff.1 (h.trans hb)).1
/-- append of bytes to bytes of the call's own. -/
theorem run_app8 (w : World) (ty : TypeId) (base : Nat) (v : Value) (n : Nat) (l : List UInt8) (hown : w.ownsRow base 5 1 v n (bytesV l))
    (B : Nat) (A : Option Addr) (m c : Nat) (k : List UInt8) (hm : k.length = m) (hr : Rd w B A (bytesV k)) (hbytes : n + m ≤ 140737488355328) (hbase : base ≤ w.heap.size) :
    ∃ v' w', (Builtin.append_ #[37, 37] ty #[v, .slice A m c]).run Tryz.prog w = .ok v' w' ∧ w'.ownsRow base 5 1 v' (n + m) (bytesV (l ++ k)) ∧ w.grownBy w' v.ownBlock := by
  obtain ⟨i0, hi, hz0, hz1, hz2⟩ := info_parts info5
  rw [bytesV_append]
  exact run_app w base 37 ty 5 i0 _ 1 Tryz.underlying37 hi hz0 hz1 hz2 rfl v n _ hown B A m c _ (by rw [length_bytesV, hm]) hr (bytesV_one _) (by simp only [maxLen]; omega) (by omega) hbase
/-- append of a sector to sectors of the call's own. -/
theorem run_sec (w : World) (ty : TypeId) (base : Nat) (v : Value) (L : List Sc) (l : List (List UInt8)) (hown : SecsOwn w base v L l) (g : Nat) (S : Sc) (nb : Nat) (hc : w.cell? ⟨g, 0, none⟩ = some (.slice S.A nb S.c)) (h63 : l.length ≤ 100000) (hbase : base ≤ w.heap.size) :
    ∃ v' w', (Builtin.append_ #[100, 100] ty #[v, .slice (some ⟨g, 0, none⟩) 1 1]).run Tryz.prog w = .ok v' w' ∧ w'.ownsRow base 37 1 v' (l.length + 1) (secsV L l ++ [.slice S.A nb S.c]) ∧ w.grownBy w' v.ownBlock := by
  obtain ⟨i0, hi, hz0, hz1, hz2⟩ := info_parts info_bytes
  have hrd : Rd w (g + 1) (some ⟨g, 0, none⟩) [.slice S.A nb S.c] := .inr ⟨g, 0, rfl, Nat.lt_succ_self g, fun j u hu => by
    cases j with
    | zero =>
      have e : Value.slice S.A nb S.c = u := by simpa using hu
      rw [← e]; exact hc
    | succ j => simp at hu⟩
  exact run_app w base 100 ty 37 i0 _ 24 Tryz.underlying100 hi hz0 hz1 hz2 rfl v l.length (secsV L l) hown.row (g + 1) _ 1 1 [.slice S.A nb S.c] rfl hrd (by
    intro u hu
    have e : u = Value.slice S.A nb S.c := by simpa using hu
    rw [e]; rfl) (by unfold maxLen; omega) (by omega) hbase
theorem SecsOwn.snoc {w w' : World} {base : Nat} {v v' : Value} {L : List Sc} {l : List (List UInt8)} {S : Sc} {b : List UInt8} (h : SecsOwn w base v L l) (hr : w'.ownsRow base 37 1 v' (l.length + 1) (secsV L l ++ [.slice S.A b.length S.c])) (hb : w'.ownsRow base 5 1 (.slice S.A b.length S.c) b.length (bytesV b))
    (hk : ∀ (i : Nat) (s : Sc) (b : List UInt8), L[i]? = some s → l[i]? = some b → w'.ownsRow base 5 1 (.slice s.A b.length s.c) b.length (bytesV b)) : SecsOwn w' base v' (L ++ [S]) (l ++ [b]) := by
  refine ⟨by simp [h.len], ?_, fun i s' b' g1 g2 => ?_⟩
  · rw [List.length_append, List.length_singleton, secsV_snoc h.len]
    exact hr
  · by_cases hi : i < l.length
    · rw [List.getElem?_append_left (by rw [h.len]; exact hi)] at g1
      rw [List.getElem?_append_left hi] at g2
      exact hk i s' b' g1 g2
    · have hi2 : i = l.length := by
        have := (List.getElem?_eq_some_iff.1 g2).1
        rw [List.length_append, List.length_singleton] at this
        omega
      rw [hi2, ← h.len, List.getElem?_append_right (Nat.le_refl _), Nat.sub_self] at g1
      rw [hi2, List.getElem?_append_right (Nat.le_refl _), Nat.sub_self] at g2
      have e1 : S = s' := by simpa using g1
      have e2 : b = b' := by simpa using g2
      subst e1 e2
      exact hb
end Go.Proofs.YtcjkbmmjpkghlaaGreat.Meta
