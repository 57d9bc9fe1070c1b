/-
  SpinLong: the hash of as many bytes as one likes, all the same, is found by steps, too.
-/
import Derived.Test.YtnplbehnlmlodaaL
namespace Go.Proofs.Ytnplbehnlmlodaa
open Go.ChangeShapes Go.WideShapes Go.ChangeAt Go.RowKit

theorem Hd.other {w wr : World} {a r : Nat} {X Y : Int} (h : Hd w wr a r X Y) {p : Addr} (ha : p.block ≠ a) (hw : w.heap.size ≤ p.block) (u : Value) : Hd w (wr.setCell p u) a r X Y := by
  obtain ⟨h1, h2, h3, h4, h5, h6, h7, h8, h9⟩ := h
  have ne : ∀ i : Nat, p ≠ ⟨a, i, none⟩ := fun i h => ha (by rw [h])
  exact ⟨set_other (ne 0) h1, set_other (ne 1) h2, by simpa using h3, by simpa using h4, set_some h5, set_some h6, by simpa using h7, by simpa using h8, h9.setCell hw _⟩
theorem Bk.other {w : World} {g : Nat} {e : TypeId} {xs : List Value} (h : Bk w g e xs) {p : Addr} (hp : p.block ≠ g) (u : Value) : Bk (w.setCell p u) g e xs :=
  (Below.heap_setCell w p u g (Ne.symm hp)).trans h

/-- The loop's head: the bytes so far, and their hash. -/
def LongAt (w wr : World) (g k j : Nat) (c : UInt8) : Prop :=
  Hd w wr (g + 1) (g + 1) (mX 1 0 (List.replicate j c)) (mY 1 0 (List.replicate j c)) ∧ Bk wr g 5 (bytesV (List.replicate j c ++ List.replicate (k - j) 0)) ∧ w.heap.size ≤ g

theorem rep_set (j k : Nat) (c : UInt8) (h : j < k) : (bytesV (List.replicate j c ++ List.replicate (k - j) 0)).set j (byteV c) = bytesV (List.replicate (j + 1) c ++ List.replicate (k - (j + 1)) 0) := by
  have e : List.replicate (k - j) (0 : UInt8) = 0 :: List.replicate (k - (j + 1)) 0 := by
    rw [← List.replicate_succ]; congr 1; omega
  rw [e, bytesV, bytesV, ← List.map_set]
  congr 1
  rw [List.set_append_right _ _ (by simp), List.length_replicate, Nat.sub_self, List.set_cons_zero, List.replicate_succ', List.append_assoc]
  rfl
theorem rep_X (j : Nat) (c : UInt8) : mX 1 0 (List.replicate (j + 1) c) = pX (tX (mX 1 0 (List.replicate j c)) (mY 1 0 (List.replicate j c)) 3 2) ((c.toNat : Int) + 1) := by
  rw [List.replicate_succ', mX_snoc]
theorem rep_Y (j : Nat) (c : UInt8) : mY 1 0 (List.replicate (j + 1) c) = pX (tY (mX 1 0 (List.replicate j c)) (mY 1 0 (List.replicate j c)) 3 2) ((c.toNat : Int) % 7) := by
  rw [List.replicate_succ', mY_snoc]

theorem start_own {w w1 : World} (hb : Below w.heap.size w w1) (X Y : Int) (t : TypeId) : Hd w (w1.alloc (.cells #[.int .i64 X, .int .i64 Y] t)) w1.heap.size w1.heap.size X Y := by
  refine ⟨cell_new _ _ _ 0, cell_new _ _ _ 1, froz_new _ _ _ _, froz_new _ _ _ _, ?_, ?_, froz_new _ _ _ _, froz_new _ _ _ _, hb.alloc hb.size _⟩
  · rw [cell_new]; rfl
  · rw [cell_new]; rfl
theorem start_long {w w1 : World} (hb : Below w.heap.size w w1) (k : Nat) (c : UInt8) :
    LongAt w ((w1.alloc (.cells (bytesV (List.replicate k 0)).toArray 5)).alloc (.cells #[.int .i64 1, .int .i64 0] 23)) w1.heap.size k 0 c := by
  have h := start_own (w1 := w1.alloc (.cells (bytesV (List.replicate k 0)).toArray 5)) (hb.alloc hb.size _) 1 0 23
  rw [size_alloc] at h
  refine ⟨h, ?_, hb.size⟩
  have hn := Bk.new w1 5 (bytesV (List.replicate k 0))
  exact hn.below ((Below.refl _ _).alloc (Nat.le_refl _) _) (by rw [size_alloc]; exact Nat.lt_succ_self _)
theorem LongAt.round {w wr w2 w3 : World} {g k j : Nat} {c : UInt8} (h : LongAt w wr g k j c) (hj : j < k) (h2 : Below (wr.setCell ⟨g, j, none⟩ (byteV c)).heap.size (wr.setCell ⟨g, j, none⟩ (byteV c)) w2) (h3 : Below w2.heap.size w2 w3) :
    LongAt w ((w3.setCell ⟨g + 1, 0, none⟩ (.int .i64 (pX (tX (mX 1 0 (List.replicate j c)) (mY 1 0 (List.replicate j c)) 3 2) ((c.toNat : Int) + 1)))).setCell ⟨g + 1, 1, none⟩ (.int .i64 (pX (tY (mX 1 0 (List.replicate j c)) (mY 1 0 (List.replicate j c)) 3 2) ((c.toNat : Int) % 7)))) g k (j + 1) c := by
  obtain ⟨hd, hbk, hg⟩ := h
  have hd1 := (((hd.other (p := ⟨g, j, none⟩) (by show g ≠ g + 1; omega) hg (byteV c)).below h2).below h3).set (X' := pX (tX (mX 1 0 (List.replicate j c)) (mY 1 0 (List.replicate j c)) 3 2) ((c.toNat : Int) + 1)) (Y' := pX (tY (mX 1 0 (List.replicate j c)) (mY 1 0 (List.replicate j c)) 3 2) ((c.toNat : Int) % 7)) (Nat.le_succ_of_le hg)
  have hb1 := hbk.set j (byteV c)
  rw [rep_set j k c hj] at hb1
  have hb2 := hb1.below h2 hb1.lt
  have hb3 := hb2.below h3 hb2.lt
  refine ⟨?_, (hb3.other (p := ⟨g + 1, 0, none⟩) (by show g + 1 ≠ g; omega) _).other (p := ⟨g + 1, 1, none⟩) (by show g + 1 ≠ g; omega) _, hg⟩
  rw [rep_X, rep_Y]
  exact hd1
theorem LongAt.cell {w wr : World} {g k j : Nat} {c : UInt8} (h : LongAt w wr g k j c) (hj : j < k) : ∃ u, wr.cell? ⟨g, j, none⟩ = some u := by
  rw [h.2.1.cell]
  exact ⟨_, List.getElem?_eq_getElem (by rw [length_bytesV, List.length_append, List.length_replicate, List.length_replicate]; omega)⟩

theorem Bk.rdAll {w : World} {g : Nat} {e : TypeId} {xs : List Value} (h : Bk w g e xs) : Rd w w.heap.size (some ⟨g, 0, none⟩) xs :=
  .inr ⟨g, 0, rfl, h.lt, fun j u hu => by rw [h.cell, Nat.zero_add]; exact hu⟩
theorem keepL {w w1 w2 : World} {a n cap : Nat} {A : Option Addr} {l : List UInt8} {x y : Value} (hn : l.length = n) (hb : Below w1.heap.size w1 w2)
    (h : w1.cell? ⟨a, 0, none⟩ = some x ∧ w1.cell? ⟨a, 1, none⟩ = some y ∧ Below w.heap.size w w1 ∧ Rd w1 w1.heap.size A (bytesV l) ∧ (convert 37 9 (.slice A n cap)).run Try.prog w1 = .ok (.string ⟨(l).toArray⟩) w1) :
    w2.cell? ⟨a, 0, none⟩ = some x ∧ w2.cell? ⟨a, 1, none⟩ = some y ∧ Below w.heap.size w w2 ∧ Rd w2 w2.heap.size A (bytesV l) ∧ (convert 37 9 (.slice A n cap)).run Try.prog w2 = .ok (.string ⟨(l).toArray⟩) w2 := by
  obtain ⟨h1, h2, h3, h4, _⟩ := h
  have h5 := (h4.below hb).more hb.size
  exact ⟨keepC hb (lt_of h1) h1, keepC hb (lt_of h2) h2, h3.trans (hb.mono h3.size), h5, str_of hn h5⟩
theorem of_list (l : List UInt8) (h : l.length ≤ 9223372036854775807) (w : World) : Calls Try.prog 19 #[.string ⟨l.toArray⟩] w fun e w' => e = .returned (.agg #[.int .i64 (mX 1 0 l), .int .i64 (mY 1 0 l)]) ∧ Below w.heap.size w w' :=
  of_any ⟨l.toArray⟩ w h

set_option maxRecDepth 100000 in
set_option maxHeartbeats 1600000 in
theorem long_walk (c : UInt8) (n : Int) (k : Nat) (w : World) (h0 : 0 ≤ n) (h1 : n ≤ 65535) (hk : n % 1001 = (k : Int)) :
    Calls Try.prog 8 #[.int .u8 (c.toNat : Int), .int .u16 n] w fun e w' => e = .returned (.bool true) ∧ Below w.heap.size w w' := by
  have hk1 : k ≤ 1000 := by omega
  have hmk := make_bytes k (by omega)
  have hc0 := c.toNat_lt
  have hst := fun w1 (hb : Below w.heap.size w w1) => start_long hb k c
  obtain ⟨z, hz⟩ : ∃ z, z = (bytesV (List.replicate k 0)).toArray := ⟨_, rfl⟩
  rw [← hz] at hmk hst
  have Hst := Lib.hid hst
  clear hz hst
  go_enter Try.func8, Try.ntmps8
  go_wp2_with ((go_at_call 10; refine (shown_any _).mono ?_; rintro e w1 ⟨rfl, hb1⟩))
  have hS := Hst.out w1 hb1
  clear Hst hmk hk
  go_loopw [19] (fun i wr => ∃ j : Nat, j ≤ k ∧ i = .int .i64 j ∧ LongAt w wr w1.heap.size k j c) (fun i _ => k - (intOf i).toNat)
  case atStart => exact ⟨0, Nat.zero_le _, rfl, hS⟩
  case round =>
    clear hS
    obtain ⟨j, hj, rfl, h⟩ := hrel
    by_cases hlt : j < k
    · obtain ⟨u, hu⟩ := h.cell hlt
      have hfu : wr.frozen? ⟨w1.heap.size, j, none⟩ = false := h.2.1.frozen j
      have hR := fun w2 w3 => h.round (w2 := w2) (w3 := w3) hlt
      have hoth := h.1.other (p := ⟨w1.heap.size, j, none⟩) (by show w1.heap.size ≠ w1.heap.size + 1; omega) h.2.2 (byteV c)
      have hcx := h.1.c0
      have hcy := h.1.c1
      obtain ⟨X, hX⟩ : ∃ X, X = mX 1 0 (List.replicate j c) := ⟨_, rfl⟩
      obtain ⟨Y, hY⟩ : ∃ Y, Y = mY 1 0 (List.replicate j c) := ⟨_, rfl⟩
      rw [← hX] at hR hoth hcx
      rw [← hY] at hR hoth hcy
      have HR := Lib.hid hR
      clear hX hY hR
      have hj0 : (0 : Int) ≤ (j : Int) := Int.natCast_nonneg _
      have hj1 : (j : Int) < (k : Int) := by omega
      go_wp2_with fail
      refine (turn_any X Y 3 2 _).mono ?_
      rintro e w2 ⟨rfl, hb2⟩
      go_wp2_with fail
      refine (push_any _ _ _ _ _).mono ?_
      rintro e w3 ⟨rfl, hb3⟩
      have h3 := (hoth.below hb2).below hb3
      have k0 := h3.c0
      have k1 := h3.c1
      have l0 := h3.f0
      have l1 := h3.f1
      go_wp2_with fail
      clear k0 k1 l0 l1 hcx hcy hu hfu
      go_roundw
      case rel => exact ⟨j + 1, by omega, by go_num, HR.out w2 w3 hb2 hb3⟩
      case measure => simp [intOf]; omega
    · obtain rfl : j = k := by omega
      have hcx := h.1.c0
      have hcy := h.1.c1
      have hrd := h.2.1
      rw [Nat.sub_self, List.replicate_zero, List.append_nil] at hrd
      have hall := h.1.all
      clear h hlt
      have hlen : (List.replicate j c).length = j := List.length_replicate
      have hof := of_list (List.replicate j c) (by rw [hlen]; omega)
      have hS := keepL (w := w) (w1 := wr) (w2 := wr.drew) (a := w1.heap.size + 1) (cap := j) hlen (Below.refl _ _).drew ⟨hcx, hcy, hall, hrd.rdAll, str_of hlen hrd.rdAll⟩
      obtain ⟨l, hl⟩ : ∃ l, l = List.replicate j c := ⟨_, rfl⟩
      rw [← hl] at hof hS hlen
      have HS := Lib.hid hS
      have Hof := Lib.hid hof
      have Hl := Lib.hid hlen
      have eq := spin_eql
      have gd := guard_at
      clear hS hof hl hlen hrd hcx hcy
      go_wp2_with fail
      go_region_held3 (fun w' => w'.cell? ⟨w1.heap.size + 1, 0, none⟩ = some (.int .i64 (mX 1 0 l)) ∧ w'.cell? ⟨w1.heap.size + 1, 1, none⟩ = some (.int .i64 (mY 1 0 l)) ∧ Below w.heap.size w w' ∧ Rd w' w'.heap.size (some ⟨w1.heap.size, 0, none⟩) (bytesV l) ∧ (convert 37 9 (.slice (some ⟨w1.heap.size, 0, none⟩) j j)).run Try.prog w' = .ok (.string ⟨(l).toArray⟩) w')
        (first | exact keepL Hl.out hb (by assumption) | exact HS.out)
        ((go_at_call 19; refine (Hof.out _).mono ?_; rintro e w' ⟨rfl, hb⟩; have hB := (keepL Hl.out hb (by assumption)).2.2.1))
      go_wp2_with fail
      go_ret
      exact ⟨rfl, hB⟩
theorem byte_of {c : Int} (h : 0 ≤ c ∧ c ≤ 255) : ∃ b : UInt8, c = (b.toNat : Int) := by
  obtain ⟨m, rfl⟩ := Int.eq_ofNat_of_zero_le h.1
  exact ⟨UInt8.ofNat m, by rw [UInt8.toNat_ofNat']; omega⟩
theorem long_any (c n : Int) (hc : 0 ≤ c ∧ c ≤ 255) (hn : 0 ≤ n ∧ n ≤ 65535) (w : World) : Calls Try.prog 8 #[.int .u8 c, .int .u16 n] w fun e w' => e = .returned (.bool true) ∧ Below w.heap.size w w' := by
  obtain ⟨b, rfl⟩ := byte_of hc
  exact long_walk b n (n % 1001).toNat w hn.1 hn.2 (by omega)

theorem long_contract (H : Type) (enc : TypeId × Value → H) (W : World) (base : Nat) (args : Array Value) (ds gs : List (DataW H)) (before : List MemPlace)
    (hval : ∀ (j : Nat) t v, Try.f8.params[j]? = some t → args[j]? = some v → Value.okWide Try.prog W .any base t v)
    (hW : DataW.Whole enc Try.prog Try.f8.params.toList Rows.spinLongSpec.vars false W args.toList ds gs before) :
    Calls Try.prog 8 args W fun e W' => ∃ v, e = .returned v ∧ Rows.spinLongSpec.post enc Try.prog Try.f8 false true false false W args v W' := by
  have hW' := hW
  have hlt : ∀ x ∈ before, x.block < W.heap.size := fun x hx => hW.lt x hx
  obtain ⟨p, q, hA0, hV, rfl, _, _⟩ := hW
  have hA : DataW.TrodAll enc Try.prog W 0 (fun _ => true) true Try.f8.params.toList args.toList ds p := hA0
  rw [Try.params8] at hA hval
  obtain ⟨v0, vs0, d0, ds0, p0, q0, hargs, rfl, rfl, h0, r0⟩ := trodAll_cons hA
  obtain ⟨v1, vs1, d1, ds1, p1, q1, rfl, rfl, rfl, h1, r1⟩ := trodAll_cons r0
  obtain ⟨rfl, rfl, rfl⟩ := trodAll_nil r1
  obtain rfl : args = #[v0, v1] := by cases args; simp_all
  obtain ⟨rfl, rfl⟩ := trodVars_none hV
  clear hA0
  obtain ⟨a0, rfl, rfl, rfl, wa0⟩ := open_int Try.underlying5 (hval 0 5 v0 rfl rfl) h0
  have bd0 := bounds_u8 wa0
  obtain ⟨a1, rfl, rfl, rfl, wa1⟩ := open_int Try.underlying39 (hval 1 39 v1 rfl rfl) h1
  have bd1 := bounds_u16 wa1
  refine (long_any a0 a1 bd0 bd1 W).mono fun e W' ⟨he, hb⟩ => ?_
  subst he
  exact ⟨_, rfl, law_post laid (by kernel_rfl) Try.underlying4 (by rw [Try.params8]; decide +kernel) rfl hW' ⟨rfl, rfl, rfl⟩ hb⟩

set_option maxRecDepth 100000 in
theorem long_lifted (os : Os) (started : os.Started) (H : Type) (enc : TypeId × Value → H) :
    ReturnsInHanded {} Try.checked os 8 .any (Rows.spinLongSpec.pre6 enc Try.prog Try.f8 Rows.spinLongRow.domain false) (Rows.spinLongSpec.post enc Try.prog Try.f8 false true false false) := by
  refine returnsInHanded_of_change (C := Try.checked) own started (by kernel_rfl) Try.func8
    (ChangeSpec.witness6 (enc := enc) (C := Try.checked) false ⟨#[], #[.int .u8 0, .int .u16 0], []⟩ 8 (by kernel_rfl) (by kernel_rfl) (by kernel_rfl) (by kernel_rfl)) ?_
  intro W base args ds gs before hval hW _ _
  exact long_contract H enc W base args ds gs before hval hW

/-- SpinLong is true for every input. -/
theorem long_holds : Rows.SpinLongSaid :=
  OpenClaim.holds_of_wide 8 Try.f8 rfl rfl rfl rfl rfl rfl rfl ⟨rfl, rfl, rfl, rfl, rfl⟩ rfl rfl rfl rfl rfl (by kernel_rfl) Try.func8 (by kernel_rfl)
    (of_decide_eq_true (by kernel_rfl)) (by unfold Func.isWrapper; first | (rw [if_pos (by decide +kernel)]; kernel_rfl) | (rw [if_neg (by decide +kernel)]; exact ⟨rfl, rfl⟩))
    (fun os started H enc _ => long_lifted os started H enc)
end Go.Proofs.Ytnplbehnlmlodaa
