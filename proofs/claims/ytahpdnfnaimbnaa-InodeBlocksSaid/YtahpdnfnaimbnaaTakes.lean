/-
  InodeTakes: whatever the bytes (of up to 200), the inode that they stand for, and the pointers in them, are the document's.
-/
import Derived.Test.YtahpdnfnaimbnaaX9
import Derived.Test.YtahpdnfnaimbnaaO
namespace Go.Proofs.Ytahpdnfnaimbnaa
open Go.ChangeShapes Go.WideShapes Go.ChangeAt Go.RowKit Inode

theorem oki_tak (b : List UInt8) : Oki (takI b).1 := by
  unfold takI
  split
  · split
    · split
      · exact oki_unI b
      · exact Oki.z
    · exact Oki.z
  · exact Oki.z
theorem Inode.HandsI.got {w w' : World} {l : List Int} {err n : Nat} {e : Ending} (h : HandsI w l err e w') (hn : l.length = n) : ∃ A c, e = .returned (.tuple #[.slice A n c, .int .i64 (err : Int)]) ∧ n ≤ c ∧ n ≤ maxLen ∧ Rd w' w'.heap.size A (intsV l) ∧ Below w.heap.size w w' := by
  subst hn
  obtain ⟨v, he, hown, hb⟩ := h
  obtain ⟨_, A, c, rfl, hc, hm, hr⟩ := own_rd hown
  exact ⟨A, c, he, hc, Nat.le_trans hc hm, hr, hb⟩

set_option maxHeartbeats 1600000 in
set_option maxRecDepth 100000 in
theorem takes_in (b : List UInt8) (A : Option Addr) (n c : Nat) (w : World) (hn : b.length = n) (hc : n ≤ c) (hr : Rd w w.heap.size A (bytesV b)) (h200 : n ≤ 200) :
    Calls Try.prog 4 #[.slice A n c] w fun e w' => e = .returned (.bool true) ∧ Below w.heap.size w w' := by
  obtain ⟨m, er, hT⟩ : ∃ m er, takI b = (m, er) := ⟨_, _, rfl⟩
  have hm : Oki m := by
    have := oki_tak b
    rwa [hT] at this
  obtain ⟨ps, ep, hP⟩ : ∃ ps ep, poiP b = (ps, ep) := ⟨_, _, rfl⟩
  have H15 : Hid (∀ W : World, Below w.heap.size w W → Calls Try.prog 15 #[.slice A n c] W fun e w' => e = .returned (.tuple #[inoV m, .int .i64 (er : Int)]) ∧ Below W.heap.size W w') := fun W h => by
    have := take_any b A n c W hn ((hr.below h).more h.size) hc
    rwa [hT] at this
  have H16 : Hid (∀ W : World, Below w.heap.size w W → Calls Try.prog 16 #[.slice A n c] W fun e w' => e = .returned (.tuple #[inoV m, .int .i64 (er : Int)]) ∧ Below W.heap.size W w') := fun W h => by
    have := rtake_any b A n c W hn ((hr.below h).more h.size) hc
    rwa [hT] at this
  have H17 : Hid (∀ W : World, Below w.heap.size w W → Calls Try.prog 17 #[.slice A n c] W fun e w' => HandsI W ps ep e w') := fun W h => by
    have := poi_any b A n c W hn ((hr.below h).more h.size) hc
    rwa [hP] at this
  have H18 : Hid (∀ W : World, Below w.heap.size w W → Calls Try.prog 18 #[.slice A n c] W fun e w' => HandsI W ps ep e w') := fun W h => by
    have := rpoi_any b A n c W hn ((hr.below h).more h.size)
    rwa [hP] at this
  obtain ⟨q, hq⟩ : ∃ q, ps.length = q := ⟨_, rfl⟩
  have Hq := Lib.hid hq
  have heq : ∀ W, (binOp .eql 24 (inoV m) (inoV m)).run Try.prog W = .ok (.bool true) W := fun W => by
    have := ino_eql W m m hm hm
    rwa [decB_yes rfl] at this
  have hg : ∀ (x y : Operand) (xs ys : Array Value) (op : BinOp) (W : World), (eqGuard op 24 x y (.agg xs) (.agg ys)).run Try.prog W = .ok () W := fun x y xs ys op W => guard_at24 W x y xs ys op
  obtain ⟨k, r, l, s, p⟩ := m
  obtain ⟨p0, p1, p2, p3, p4, p5, p6, p7, p8, p9, hp⟩ := ten_of hm.len
  simp only at hp
  subst hp
  have heq' : ∀ W, (binOp .eql 24 (.agg #[.int .u8 (k : Int), .int .u8 (r : Int), .int .i64 l, .int .i64 s, .int .i64 p0, .int .i64 p1, .int .i64 p2, .int .i64 p3, .int .i64 p4, .int .i64 p5, .int .i64 p6, .int .i64 p7, .int .i64 p8, .int .i64 p9]) (.agg #[.int .u8 (k : Int), .int .u8 (r : Int), .int .i64 l, .int .i64 s, .int .i64 p0, .int .i64 p1, .int .i64 p2, .int .i64 p3, .int .i64 p4, .int .i64 p5, .int .i64 p6, .int .i64 p7, .int .i64 p8, .int .i64 p9])).run Try.prog W = .ok (.bool true) W := heq
  replace H15 : Hid (∀ W : World, Below w.heap.size w W → Calls Try.prog 15 #[.slice A n c] W fun e w' => e = .returned (.tuple #[.agg #[.int .u8 (k : Int), .int .u8 (r : Int), .int .i64 l, .int .i64 s, .int .i64 p0, .int .i64 p1, .int .i64 p2, .int .i64 p3, .int .i64 p4, .int .i64 p5, .int .i64 p6, .int .i64 p7, .int .i64 p8, .int .i64 p9], .int .i64 (er : Int)]) ∧ Below W.heap.size W w') := H15
  replace H16 : Hid (∀ W : World, Below w.heap.size w W → Calls Try.prog 16 #[.slice A n c] W fun e w' => e = .returned (.tuple #[.agg #[.int .u8 (k : Int), .int .u8 (r : Int), .int .i64 l, .int .i64 s, .int .i64 p0, .int .i64 p1, .int .i64 p2, .int .i64 p3, .int .i64 p4, .int .i64 p5, .int .i64 p6, .int .i64 p7, .int .i64 p8, .int .i64 p9], .int .i64 (er : Int)]) ∧ Below W.heap.size W w') := H16
  clear heq hm hT hP hn hr hc hq
  go_enter Try.func4, Try.ntmps4
  go_wp2_with (first
    | (go_at_call 12; (with_reducible refine (shown_any _).mono ?_); rintro e w1 ⟨he, hb1⟩; obtain rfl := he; have HB1 := Lib.hid hb1; clear hb1)
    | (go_at_call 15; (with_reducible refine (H15.out _ HB1.out).mono ?_); rintro e w2 ⟨he, hb2⟩; obtain rfl := he; have HB2 := Lib.hid (HB1.out.trans (hb2.mono HB1.out.size)); have HB2' := Lib.hid (HB2.out.alloc HB2.out.size (.cells #[.int .u8 (k : Int), .int .u8 (r : Int), .int .i64 l, .int .i64 s, .int .i64 p0, .int .i64 p1, .int .i64 p2, .int .i64 p3, .int .i64 p4, .int .i64 p5, .int .i64 p6, .int .i64 p7, .int .i64 p8, .int .i64 p9] 24)); clear hb2)
    | (go_at_call 16; (with_reducible refine (H16.out _ HB2'.out).mono ?_); rintro e w3 ⟨he, hb3⟩; obtain rfl := he; have HB3 := Lib.hid (HB2'.out.trans (hb3.mono HB2'.out.size)); have HK3 := Lib.hid (kept_ino hb3).1; have HB3' := Lib.hid (HB3.out.alloc HB3.out.size (.cells #[.int .u8 (k : Int), .int .u8 (r : Int), .int .i64 l, .int .i64 s, .int .i64 p0, .int .i64 p1, .int .i64 p2, .int .i64 p3, .int .i64 p4, .int .i64 p5, .int .i64 p6, .int .i64 p7, .int .i64 p8, .int .i64 p9] 24)); clear hb3)
    | (go_at_call 17; (with_reducible refine (H17.out _ HB3'.out).mono ?_); rintro e w4 hh; obtain ⟨A4, c4, he, -, hq4, hr4, hb4⟩ := hh.got Hq.out; obtain rfl := he; have HB4 := Lib.hid (HB3'.out.trans (hb4.mono HB3'.out.size)); have HK4 := Lib.hid ((HK3.out.below (alloc_below w3 (.cells #[.int .u8 (k : Int), .int .u8 (r : Int), .int .i64 l, .int .i64 s, .int .i64 p0, .int .i64 p1, .int .i64 p2, .int .i64 p3, .int .i64 p4, .int .i64 p5, .int .i64 p6, .int .i64 p7, .int .i64 p8, .int .i64 p9] 24)) HK3.out.lt).below hb4 (Nat.lt_of_lt_of_le HK3.out.lt (by simp))); have HJ4 := Lib.hid (kept_ino hb4).1; have HR4 := Lib.hid hr4; have HQ := Lib.hid hq4; clear hh hb4 hr4 hq4)
    | (go_at_call 18; (with_reducible refine (H18.out _ HB4.out).mono ?_); rintro e w5 hh; obtain ⟨A5, c5, he, -, -, hr5, hb5⟩ := hh.got Hq.out; obtain rfl := he; have HB5 := Lib.hid (HB4.out.trans (hb5.mono HB4.out.size)); have hk5 := HK4.out.below hb5 HK4.out.lt; have hj5 := HJ4.out.below hb5 HJ4.out.lt; have HR45 := Lib.hid (HR4.out.below hb5); have HR5 := Lib.hid hr5; have hl5 := hk5.lt; have hm5 := hj5.lt; obtain ⟨a0, a1, a2, a3, a4, a5, a6, a7, a8, a9, a10, a11, a12, a13⟩ := ino_cells hk5; obtain ⟨x0, x1, x2, x3, x4, x5, x6, x7, x8, x9, x10, x11, x12, x13⟩ := ino_cells hj5; clear hh hb5 hr5 hk5 hj5)
    | (go_at_call 19; (with_reducible refine (same_true ps A4 A5 q c4 c5 _ _ _ Hq.out HR45.out HR5.out (by have := HQ.out; unfold maxLen at this; omega)).mono ?_); rintro e w6 ⟨he, q6, hw6⟩; obtain rfl := he; subst hw6))
  go_ret
  exact ⟨rfl, below_drewN HB5.out _⟩
set_option maxRecDepth 100000 in
theorem takes_walk (b : List UInt8) (A : Option Addr) (n c : Nat) (w : World) (hn : b.length = n) (hc : n ≤ c) (hr : Rd w w.heap.size A (bytesV b)) :
    Calls Try.prog 4 #[.slice A n c] w fun e w' => e = .returned (.bool true) ∧ Below w.heap.size w w' := by
  by_cases h : n ≤ 200
  · exact takes_in b A n c w hn hc hr h
  · clear hn hc hr
    go_enter Try.func4, Try.ntmps4
    go_wp2_with (go_at_call 12; (with_reducible refine (shown_any _).mono ?_); rintro e w1 ⟨he, hb1⟩; obtain rfl := he; have HB1 := Lib.hid hb1; clear hb1)
    go_ret
    exact ⟨rfl, HB1.out⟩

theorem takes_contract (H : Type) (enc : TypeId × Value → H) (W : World) (base : Nat) (args : Array Value) (ds gs : List (DataW H)) (before : List MemPlace)
    (hval : ∀ (j : Nat) t v, Try.f4.params[j]? = some t → args[j]? = some v → Value.okWide Try.prog W .any base t v)
    (hW : DataW.Whole enc Try.prog Try.f4.params.toList Rows.inodeTakesSpec.vars false W args.toList ds gs before) :
    Calls Try.prog 4 args W fun e W' => ∃ v, e = .returned v ∧ Rows.inodeTakesSpec.post enc Try.prog Try.f4 false true false false W args v W' := by
  have hW' := hW
  have hlt : ∀ x ∈ before, x.block < W.heap.size := fun x hx => hW.lt x hx
  obtain ⟨p, q, hA0, hV, rfl, _, _⟩ := hW
  have hA : DataW.TrodAll enc Try.prog W 0 (fun _ => true) true Try.f4.params.toList args.toList ds p := hA0
  rw [Try.params4] at hA hval
  obtain ⟨v0, vs0, d0, ds0, p0, q0, hargs, rfl, rfl, h0, r0⟩ := trodAll_cons hA
  obtain ⟨rfl, rfl, rfl⟩ := trodAll_nil r0
  obtain rfl : args = #[v0] := by cases args; simp_all
  obtain ⟨rfl, rfl⟩ := trodVars_none hV
  clear hA0
  obtain ⟨A0, n0, c0, l0, rfl, hn0, hc0, hm0, hr0⟩ := open_bytesL Try.underlying25 Try.underlying5 cells5 (hval 0 25 v0 rfl rfl) h0 (fun x hx => hlt x (by simp [hx]))
  unfold maxLen at hm0
  refine (takes_walk l0 A0 n0 c0 W hn0 hc0 hr0).mono fun e W' ⟨he, hb⟩ => ?_
  subst he
  exact ⟨_, rfl, law_post laid (by kernel_rfl) Try.underlying4 (by rw [Try.params4]; decide +kernel) rfl hW' ⟨rfl, rfl, rfl⟩ hb⟩

set_option maxRecDepth 100000 in
theorem takes_lifted (os : Os) (started : os.Started) (H : Type) (enc : TypeId × Value → H) :
    ReturnsInHanded {} Try.checked os 4 .any (Rows.inodeTakesSpec.pre6 enc Try.prog Try.f4 Rows.inodeTakesRow.domain false) (Rows.inodeTakesSpec.post enc Try.prog Try.f4 false true false false) := by
  refine returnsInHanded_of_change (C := Try.checked) own started (by kernel_rfl) Try.func4
    (ChangeSpec.witness6 (enc := enc) (C := Try.checked) false ⟨#[], #[.slice none 0 0], []⟩ 8 (by kernel_rfl) (by kernel_rfl) (by kernel_rfl) (by kernel_rfl)) ?_
  intro W base args ds gs before hval hW _ _
  exact takes_contract H enc W base args ds gs before hval hW

/-- InodeTakes is true for every input. -/
theorem takes_holds : Rows.InodeTakesSaid :=
  OpenClaim.holds_of_wide 4 Try.f4 rfl rfl rfl rfl rfl rfl rfl ⟨rfl, rfl, rfl, rfl, rfl⟩ rfl rfl rfl rfl rfl (by kernel_rfl) Try.func4 (by kernel_rfl)
    (of_decide_eq_true (by kernel_rfl)) (by unfold Func.isWrapper; first | (rw [if_pos (by decide +kernel)]; kernel_rfl) | (rw [if_neg (by decide +kernel)]; exact ⟨rfl, rfl⟩))
    (fun os started H enc _ => takes_lifted os started H enc)
end Go.Proofs.Ytahpdnfnaimbnaa
