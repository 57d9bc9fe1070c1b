/-
  An entry's bytes: package entry's Lay.
-/
import Derived.Test.YtlopndnjkphdnaaEntryX2
import Derived.Lib.BufferWrite
import Derived.Deep.RegionHeld3
import Derived.Deep.RegionLaw
namespace Go.Proofs.Ytlopndnjkphdnaa.Entry
open Go.RowKit

/-- Bytes, and an error, that a call hands back in memory of their own. -/
def Hands (w : World) (r : List UInt8 × Nat) (e : Ending) (w' : World) : Prop :=
  ∃ v, e = .returned (.tuple #[v, .int .i64 (r.2 : Int)]) ∧ w'.ownsRow w.heap.size 5 1 v r.1.length (bytesV r.1) ∧ Below w.heap.size w w'
theorem hands_nil {w w' : World} {r : List UInt8 × Nat} {k : Nat} (hr : r = ([], k)) (hb : Below w.heap.size w w') : Hands w r (.returned (.tuple #[.slice none 0 0, .int .i64 (k : Int)])) w' := by
  subst hr
  exact ⟨_, rfl, World.ownsRow_nil _ _ _ _, hb⟩
theorem layE_name {H : List UInt8 → UInt8} {n : List UInt8} {i : Int} (h : nameB n = false) : layE H n i = ([], 120) := by unfold layE; rw [h]; rfl
theorem layE_ino {H : List UInt8 → UInt8} {n : List UInt8} {i : Int} (h : nameB n = true) (hi : ¬ (0 ≤ i ∧ i < 64)) : layE H n i = ([], 1) := by unfold layE; rw [if_pos h, if_neg hi]
theorem layE_yes {H : List UInt8 → UInt8} {n : List UInt8} {i : Int} (h : nameB n = true) (hi : 0 ≤ i ∧ i < 64) : layE H n i = (entB H ⟨n, i.toNat⟩, 0) := by unfold layE; rw [if_pos h, if_pos hi]

theorem row_grown (w : World) (g : Nat) (cs : Array Value) : w.grownBy (w.setRow g cs) (some g) :=
  ⟨rfl, rfl, rfl, by simp [World.setRow], fun k _ hk => by
    show (w.heap.modify g _)[k]? = _
    rw [Array.getElem?_modify, if_neg (fun e => hk (by rw [e]))]⟩
/-- 'copy(dst, s)', s a string that fits, as a step of a region. -/
theorem step_copy_str {ops : Array Oper} {o : Oper} {a : Act} {w : World} {K : Act → World → Prop} {Q : Exit → Act → World → Prop} {E : Prop} (hgd : o.guard = none) (d x : Operand)
    (ho : o.op = .call { callee := .builtin .copy, args := #[d, x], argTypes := #[24, 9] })
    (g off dLen dCap : Nat) (s : ByteArray) (hd : a.eval d = .slice (some ⟨g, off, none⟩) dLen dCap) (hs : a.eval x = .string s)
    (cur : List Value) (t : TypeId) (hg : w.heap[g]? = some (.cells cur.toArray t (0, 0))) (hle : s.size ≤ dLen) (hfit : off + s.size ≤ cur.length)
    (h : ∀ w', Hid (w'.heap[g]? = some (.cells (splice cur off (bytesV s.data.toList)).toArray t (0, 0))) → Hid (w.grownBy w' (some g)) → K (a.put o.dst (goInt s.size)) w') :
    if Region.wanted o (yielded ops a.tmps) = true then Oper.wp Try.prog o a w K Q else E := by
  have hw : Region.wanted o (yielded ops a.tmps) = true := by simp [Region.wanted, hgd]
  rw [if_pos hw]
  have hrun := Lib.run_copy_row_string (P := Try.prog) w 24 9 o.type 5 g off dLen dCap s cur.toArray t Try.underlying24 size5 hg hle (by simpa using hfit)
  unfold Oper.wp
  simp [execOp, ho, resolve, invoke, builtin, hd, hs, hrun, Result.andThen]
  refine h _ (show _ = _ from ?_) (row_grown _ _ _)
  have := setRow_heap w g cur.toArray (cur.take off ++ (Lib.byteCells s.data.toList ++ cur.drop (off + s.size))).toArray t (0, 0) hg
  rw [this]
  have e : Lib.byteCells s.data.toList = bytesV s.data.toList := rfl
  have hl : (bytesV s.data.toList).length = s.size := by rw [length_bytesV, Lib.size_eq]
  rw [e]
  simp [splice, hl]

/-- What the region that lays an entry's head keeps. -/
theorem keepE {w w1 w2 : World} {g g2 : Nat} {a0 a1 : Value} (hb : Below w1.heap.size w1 w2)
    (h : w1.cell? ⟨g, 0, none⟩ = some a0 ∧ w1.cell? ⟨g, 1, none⟩ = some a1 ∧ (w1.cell? ⟨g2, 0, none⟩).isSome = true ∧ (w1.cell? ⟨g2, 1, none⟩).isSome = true ∧ (w1.cell? ⟨g2, 2, none⟩).isSome = true ∧ w1.frozen? ⟨g2, 0, none⟩ = false ∧ w1.frozen? ⟨g2, 1, none⟩ = false ∧ w1.frozen? ⟨g2, 2, none⟩ = false ∧ Below w.heap.size w w1) :
    w2.cell? ⟨g, 0, none⟩ = some a0 ∧ w2.cell? ⟨g, 1, none⟩ = some a1 ∧ (w2.cell? ⟨g2, 0, none⟩).isSome = true ∧ (w2.cell? ⟨g2, 1, none⟩).isSome = true ∧ (w2.cell? ⟨g2, 2, none⟩).isSome = true ∧ w2.frozen? ⟨g2, 0, none⟩ = false ∧ w2.frozen? ⟨g2, 1, none⟩ = false ∧ w2.frozen? ⟨g2, 2, none⟩ = false ∧ Below w.heap.size w w2 := by
  obtain ⟨h1, h2, h3, h4, h5, h6, h7, h8, h9⟩ := h
  obtain ⟨v, hv⟩ := Option.isSome_iff_exists.1 h3
  have l1 := lt_of h1
  have l2 := lt_of hv
  refine ⟨(hb.cell l1).trans h1, (hb.cell l1).trans h2, ?_, ?_, ?_, ?_, ?_, ?_, h9.trans (hb.mono h9.size)⟩
  · rw [hb.cell (show (⟨g2, 0, none⟩ : Addr).block < _ from l2)]; exact h3
  · rw [hb.cell (show (⟨g2, 1, none⟩ : Addr).block < _ from l2)]; exact h4
  · rw [hb.cell (show (⟨g2, 2, none⟩ : Addr).block < _ from l2)]; exact h5
  · rw [hb.frozen (show (⟨g2, 0, none⟩ : Addr).block < _ from l2)]; exact h6
  · rw [hb.frozen (show (⟨g2, 1, none⟩ : Addr).block < _ from l2)]; exact h7
  · rw [hb.frozen (show (⟨g2, 2, none⟩ : Addr).block < _ from l2)]; exact h8
theorem set_other {w : World} {p q : Addr} {v u : Value} (hne : p ≠ q) (h : w.cell? q = some u) : (w.setCell p v).cell? q = some u := by rw [World.cell?_setCell_other _ _ _ _ hne]; exact h
theorem set_some {w : World} {p q : Addr} {v : Value} (h : (w.cell? q).isSome = true) : ((w.setCell p v).cell? q).isSome = true := by
  by_cases hne : p = q
  · subst hne; rw [World.cell?_setCell_same' _ _ _ h]; rfl
  · rw [World.cell?_setCell_other _ _ _ _ hne]; exact h
theorem putE {w w1 : World} {g g2 j : Nat} {a0 a1 x : Value} (hg : g ≠ g2) (hw : w.heap.size ≤ g2)
    (h : w1.cell? ⟨g, 0, none⟩ = some a0 ∧ w1.cell? ⟨g, 1, none⟩ = some a1 ∧ (w1.cell? ⟨g2, 0, none⟩).isSome = true ∧ (w1.cell? ⟨g2, 1, none⟩).isSome = true ∧ (w1.cell? ⟨g2, 2, none⟩).isSome = true ∧ w1.frozen? ⟨g2, 0, none⟩ = false ∧ w1.frozen? ⟨g2, 1, none⟩ = false ∧ w1.frozen? ⟨g2, 2, none⟩ = false ∧ Below w.heap.size w w1) :
    (w1.setCell ⟨g2, j, none⟩ x).cell? ⟨g, 0, none⟩ = some a0 ∧ (w1.setCell ⟨g2, j, none⟩ x).cell? ⟨g, 1, none⟩ = some a1 ∧ ((w1.setCell ⟨g2, j, none⟩ x).cell? ⟨g2, 0, none⟩).isSome = true ∧ ((w1.setCell ⟨g2, j, none⟩ x).cell? ⟨g2, 1, none⟩).isSome = true ∧ ((w1.setCell ⟨g2, j, none⟩ x).cell? ⟨g2, 2, none⟩).isSome = true ∧ (w1.setCell ⟨g2, j, none⟩ x).frozen? ⟨g2, 0, none⟩ = false ∧ (w1.setCell ⟨g2, j, none⟩ x).frozen? ⟨g2, 1, none⟩ = false ∧ (w1.setCell ⟨g2, j, none⟩ x).frozen? ⟨g2, 2, none⟩ = false ∧ Below w.heap.size w (w1.setCell ⟨g2, j, none⟩ x) := by
  obtain ⟨h1, h2, h3, h4, h5, h6, h7, h8, h9⟩ := h
  have ne : ∀ k : Nat, (⟨g2, j, none⟩ : Addr) ≠ ⟨g, k, none⟩ := fun k h => by injection h; omega
  refine ⟨set_other (ne _) h1, set_other (ne _) h2, set_some h3, set_some h4, set_some h5, ?_, ?_, ?_, h9.setCell hw _⟩
  · simpa using h6
  · simpa using h7
  · simpa using h8

/-- The bytes of an entry, as they are stored. -/
theorem entB_cells {n : List UInt8} {i : Nat} (hn : nameB n = true) (hi : i < 64) :
    splice ([.int .u8 (n.length : Int), .int .u8 ((hsh n).toNat : Int), .int .u8 (i : Int)] ++ bytesV (List.replicate 13 0)) 3 (bytesV n) = bytesV (entB hsh ⟨n, i⟩) := by
  have hl := name_len hn
  have e : entB hsh ⟨n, i⟩ = [UInt8.ofNat n.length, hsh n, UInt8.ofNat i] ++ (n ++ List.replicate (16 - (n.length + 3)) 0) := entB_eq _
  have b0 : byteV (UInt8.ofNat n.length) = .int .u8 (n.length : Int) := by unfold byteV; simp; omega
  have b2 : byteV (UInt8.ofNat i) = .int .u8 (i : Int) := by unfold byteV; simp; omega
  rw [e, bytesV_append, bytesV_append]
  have e3 : bytesV [UInt8.ofNat n.length, hsh n, UInt8.ofNat i] = [.int .u8 (n.length : Int), .int .u8 ((hsh n).toNat : Int), .int .u8 (i : Int)] := by
    show [byteV _, byteV _, byteV _] = _
    rw [b0, b2]; rfl
  rw [e3]
  have hz : (bytesV (List.replicate 13 0)).drop n.length = bytesV (List.replicate (16 - (n.length + 3)) 0) := by
    rw [← bytesV_drop, List.drop_replicate]
    congr 2
    omega
  unfold splice
  rw [length_bytesV]
  show _ = _
  rw [show ([Value.int .u8 (n.length : Int), .int .u8 ((hsh n).toNat : Int), .int .u8 (i : Int)] ++ bytesV (List.replicate 13 0)).take 3 = [.int .u8 (n.length : Int), .int .u8 ((hsh n).toNat : Int), .int .u8 (i : Int)] from rfl]
  rw [show ([Value.int .u8 (n.length : Int), .int .u8 ((hsh n).toNat : Int), .int .u8 (i : Int)] ++ bytesV (List.replicate 13 0)).drop (3 + n.length) = (bytesV (List.replicate 13 0)).drop n.length by
    rw [← List.drop_drop]; rfl]
  rw [hz]

/-- A boxed entry, behind a call. -/
theorem kept_ent {w w1 : World} {a b : Value} (hb : Below (w.alloc (.cells #[a, b] 23)).heap.size (w.alloc (.cells #[a, b] 23)) w1) : Bk w1 w.heap.size 23 [a, b] ∧ Below w.heap.size w w1 ∧ w.heap.size < w1.heap.size := by
  have h := hb.size
  have hk := Bk.new w 23 [a, b]
  have e : (w.alloc (.cells #[a, b] 23)).heap.size = w.heap.size + 1 := by simp
  exact ⟨hk.below hb (by omega), (alloc_below w _).trans (hb.mono (by omega)), by omega⟩
theorem ent_cells {w : World} {g : Nat} {a b : Value} (h : Bk w g 23 [a, b]) : w.cell? ⟨g, 0, none⟩ = some a ∧ w.cell? ⟨g, 1, none⟩ = some b := ⟨h.cell 0, h.cell 1⟩

set_option maxHeartbeats 1600000 in
theorem lay_any (s : ByteArray) (i : Int) (w : World) : Calls Try.prog 11 #[.agg #[.string s, .int .i64 i]] w fun e w' => Hands w (layE hsh s.data.toList i) e w' := by
  have hsz := Lib.size_eq s
  have HR := Lib.hid (right_any s)
  cases hN : nameB s.data.toList
  · rw [layE_name hN]
    rw [hN] at HR
    go_enter Try.func11, Try.ntmps11
    go_wp2_with (go_at_call 16; (with_reducible refine (HR.out _).mono ?_); rintro e w1 ⟨he, hb1⟩; obtain rfl := he)
    go_ret2
    exact hands_nil rfl ((alloc_below w _).trans (hb1.mono (by simp)))
  · rw [hN] at HR
    by_cases hi : 0 ≤ i ∧ i < 64
    · rw [layE_yes hN hi]
      obtain ⟨hi0, hi1⟩ := hi
      have hl := name_len hN
      rw [← hsz] at hl
      obtain ⟨hl0, hl1⟩ := hl
      obtain ⟨k, rfl⟩ : ∃ k : Nat, i = (k : Int) := ⟨i.toNat, by omega⟩
      have HE := Lib.hid (entB_cells (i := k) hN (by omega))
      rw [← hsz] at HE
      have HB := Lib.hid (fun w => bits_of s w (by omega))
      have HL := Lib.hid (length_entB (H := hsh) (x := ⟨s.data.toList, k⟩) ⟨hN, show k < 64 by omega⟩)
      have hmk := make16
      rw [Int.toNat_natCast]
      generalize ((hsh s.data.toList).toNat : Int) = hh at *
      generalize entB hsh ⟨s.data.toList, k⟩ = out at *
      clear hN hsz
      go_enter Try.func11, Try.ntmps11
      go_wp2_with (go_at_call 16; (with_reducible refine (HR.out _).mono ?_); rintro e w1 ⟨he, hb1⟩; obtain rfl := he; obtain ⟨hk1, hb1', hs1⟩ := kept_ent hb1; obtain ⟨a0, a1⟩ := ent_cells hk1; have HB1 := Lib.hid hb1'; have HK1 := Lib.hid hk1; clear hb1 hb1' hk1)
      have hbW := alloc_below w1 (.cells (bytesV zeros16).toArray 5)
      have hZ := Bk.new w1 5 (bytesV zeros16)
      have hK2 := HK1.out.below hbW hs1
      have hB2 := HB1.out.trans (hbW.mono (Nat.le_of_lt hs1))
      have hsW : w1.heap.size < (w1.alloc (.cells (bytesV zeros16).toArray 5)).heap.size := by simp
      clear hbW HB1 HK1 a0 a1 hmk
      have hK2 : Bk (w1.alloc (.cells (bytesV zeros16).toArray 5)).drew w.heap.size 23 [.string s, .int .i64 (k : Int)] := hK2
      have hZ : Bk (w1.alloc (.cells (bytesV zeros16).toArray 5)).drew w1.heap.size 5 (bytesV zeros16) := hZ
      have hB2 := below_drew hB2
      have hsW : w1.heap.size < (w1.alloc (.cells (bytesV zeros16).toArray 5)).drew.heap.size := hsW
      obtain ⟨V, hV⟩ : ∃ V, V = w1.alloc (.cells (bytesV zeros16).toArray 5) := ⟨_, rfl⟩
      rw [← hV] at hK2 hZ hB2 hsW ⊢
      clear hV
      obtain ⟨W, hW⟩ : ∃ W, W = V.drew := ⟨_, rfl⟩
      rw [← hW] at hK2 hZ hB2 hsW
      have HW := Lib.hid hW
      clear hW
      generalize w1.heap.size = g2 at *
      obtain ⟨a0, a1⟩ := ent_cells hK2
      have z0 : W.cell? ⟨g2, 0, none⟩ = some (.int .u8 0) := hZ.cell 0
      have z1 : W.cell? ⟨g2, 1, none⟩ = some (.int .u8 0) := hZ.cell 1
      have z2 : W.cell? ⟨g2, 2, none⟩ = some (.int .u8 0) := hZ.cell 2
      have HZ := Lib.hid hZ
      have HB2 := Lib.hid hB2
      have HK2 := Lib.hid hK2
      have HS0 := Lib.hid (show W.cell? ⟨w.heap.size, 0, none⟩ = some (.string s) ∧ W.cell? ⟨w.heap.size, 1, none⟩ = some (.int .i64 (k : Int)) ∧ (W.cell? ⟨g2, 0, none⟩).isSome = true ∧ (W.cell? ⟨g2, 1, none⟩).isSome = true ∧ (W.cell? ⟨g2, 2, none⟩).isSome = true ∧ W.frozen? ⟨g2, 0, none⟩ = false ∧ W.frozen? ⟨g2, 1, none⟩ = false ∧ W.frozen? ⟨g2, 2, none⟩ = false ∧ Below w.heap.size w W from
        ⟨a0, a1, by rw [z0]; rfl, by rw [z1]; rfl, by rw [z2]; rfl, hZ.frozen 0, hZ.frozen 1, hZ.frozen 2, hB2⟩)
      have hg2 : w.heap.size ≠ g2 := by omega
      have hg3 : w.heap.size ≤ g2 := by omega
      have e1 : IntKind.u8.wrap (s.size : Int) = (s.size : Int) := by rw [IntKind.wrap_u8]; omega
      have e2 : IntKind.u8.wrap (k : Int) = (k : Int) := by rw [IntKind.wrap_u8]; omega
      clear hZ hB2 hK2 a0 a1 z0 z1 z2
      go_region_held3 (fun u => u.cell? ⟨w.heap.size, 0, none⟩ = some (.string s) ∧ u.cell? ⟨w.heap.size, 1, none⟩ = some (.int .i64 (k : Int)) ∧ (u.cell? ⟨g2, 0, none⟩).isSome = true ∧ (u.cell? ⟨g2, 1, none⟩).isSome = true ∧ (u.cell? ⟨g2, 2, none⟩).isSome = true ∧ u.frozen? ⟨g2, 0, none⟩ = false ∧ u.frozen? ⟨g2, 1, none⟩ = false ∧ u.frozen? ⟨g2, 2, none⟩ = false ∧ Below w.heap.size w u)
        (first | (rw [← HW.out]; with_reducible exact HS0.out) | with_reducible exact HS2.out | with_reducible exact HP0.out _ | with_reducible exact HP1.out _ _ | with_reducible exact HP2.out _ _ _)
        (first
          | (go_at_call 29; rw [← HW.out]; (with_reducible refine (HB.out _).mono ?_); rintro e w2 ⟨he, hb2⟩; obtain rfl := he; have hS2 := keepE hb2 HS0.out; have hp0 := fun x => putE (j := 0) (x := x) hg2 hg3 hS2; have hp1 := fun x y => putE (j := 1) (x := y) hg2 hg3 (hp0 x); have hp2 := fun x y z => putE (j := 2) (x := z) hg2 hg3 (hp1 x y); have HP0 := Lib.hid hp0; have HP1 := Lib.hid hp1; have HP2 := Lib.hid hp2; clear hp0 hp1 hp2; have HS2 := Lib.hid hS2; obtain ⟨_, _, hz0, hz1, hz2, _, _, _, hB3⟩ := hS2; obtain ⟨u0, hu0⟩ := Option.isSome_iff_exists.1 hz0; obtain ⟨u1, hu1⟩ := Option.isSome_iff_exists.1 hz1; obtain ⟨u2, hu2⟩ := Option.isSome_iff_exists.1 hz2; have HZ2 := Lib.hid (HZ.out.below hb2 hsW)))
      obtain ⟨c0, -, -, -, -, -, -, -, hB4⟩ := HP2.out (.int .u8 (s.size : Int)) (.int .u8 hh) (.int .u8 (k : Int))
      have hZ3 := ((HZ2.out.set 0 (.int .u8 (s.size : Int))).set 1 (.int .u8 hh)).set 2 (.int .u8 (k : Int))
      have hB5 := HZ2.out.lt
      clear hu0 hu1 hu2 hz0 hz1 hz2 HP0 HP1 HP2 HS2 HS0 HK2 hb2 hB3 HZ2
      have hs4 : g2 < (((w2.setCell ⟨g2, 0, none⟩ (.int .u8 (s.size : Int))).setCell ⟨g2, 1, none⟩ (.int .u8 hh)).setCell ⟨g2, 2, none⟩ (.int .u8 (k : Int))).heap.size := hZ3.lt
      generalize ((w2.setCell ⟨g2, 0, none⟩ (.int .u8 (s.size : Int))).setCell ⟨g2, 1, none⟩ (.int .u8 hh)).setCell ⟨g2, 2, none⟩ (.int .u8 (k : Int)) = W4 at *
      have hZ4 : W4.drew.heap[g2]? = some (.cells (([.int .u8 (s.size : Int), .int .u8 hh, .int .u8 (k : Int)] ++ bytesV (List.replicate 13 0) : List Value)).toArray 5 (0, 0)) := hZ3
      have HZ4 := Lib.hid hZ4
      have HB4 := Lib.hid (below_drew hB4)
      have hfit : 3 + s.size ≤ ([.int .u8 (s.size : Int), .int .u8 hh, .int .u8 (k : Int)] ++ bytesV (List.replicate 13 0) : List Value).length := by
        rw [List.length_append, length_bytesV]
        simp
        omega
      have HF := Lib.hid hfit
      clear hZ3 hZ4 hB4 hfit
      go_wp2_with fail
      go_region_law (refine step_copy_str rfl (.tmp 37) (.tmp 39) rfl g2 3 13 13 s rfl rfl _ 5 HZ4.out hl1 HF.out ?_; intro w5 hg5 hb5)
      have hK5 : Bk w5 g2 5 (bytesV out) := by
        rw [← HE.out]
        exact hg5.out
      have hB6 : Below w.heap.size w w5 := HB4.out.grown hb5.out (Nat.le_trans hg3 (Nat.le_of_lt hs4)) (by rintro q hq; injection hq with hq; omega)
      have ho5 : w5.ownsRow w.heap.size 5 1 (.slice (some ⟨g2, 0, none⟩) 16 16) out.length (bytesV out) := by
        rw [HL.out]
        exact hK5.own 16 (by rw [length_bytesV, HL.out]) hg3 (by unfold maxLen; omega)
      have HO5 := Lib.hid ho5
      have HB6 := Lib.hid hB6
      clear ho5 hB6 hK5 hg5 hb5
      go_wp2
      go_ret2
      exact ⟨_, rfl, HO5.out, HB6.out⟩
    · rw [layE_ino hN hi]
      have hi2 : i < 0 ∨ 64 ≤ i := by omega
      clear hi hN hsz
      rcases hi2 with hi0 | hi1
      · go_enter Try.func11, Try.ntmps11
        go_wp2_with (go_at_call 16; (with_reducible refine (HR.out _).mono ?_); rintro e w1 ⟨he, hb1⟩; obtain rfl := he; obtain ⟨hk1, hb1', hs1⟩ := kept_ent hb1; obtain ⟨a0, a1⟩ := ent_cells hk1)
        go_ret2
        exact hands_nil rfl hb1'
      · have hi0 : 0 ≤ i := by omega
        go_enter Try.func11, Try.ntmps11
        go_wp2_with (go_at_call 16; (with_reducible refine (HR.out _).mono ?_); rintro e w1 ⟨he, hb1⟩; obtain rfl := he; obtain ⟨hk1, hb1', hs1⟩ := kept_ent hb1; obtain ⟨a0, a1⟩ := ent_cells hk1)
        go_ret2
        exact hands_nil rfl hb1'
end Go.Proofs.Ytlopndnjkphdnaa.Entry
