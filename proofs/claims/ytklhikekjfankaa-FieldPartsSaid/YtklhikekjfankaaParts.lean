/-
  FieldParts: whatever the size and two lists of numbers, numbers that are laid behind others stand behind them.
-/
import Derived.Test.YtklhikekjfankaaF
import Derived.Deep.DeepCutAuto
namespace Go.Proofs.Ytklhikekjfankaa
open Go.ChangeShapes Go.WideShapes Go.ChangeAt Go.RowKit

theorem layB_append (size : Nat) (K L : List Nat) (h : (K.length + L.length) * size ≤ 4096) : layB size (K ++ L) = (layB size K && layB size L) := by
  have h1 : K.length * size ≤ 4096 := Nat.le_trans (Nat.mul_le_mul_right _ (by omega)) h
  have h2 : L.length * size ≤ 4096 := Nat.le_trans (Nat.mul_le_mul_right _ (by omega)) h
  simp [layB, h, h1, h2]

set_option maxHeartbeats 800000 in
theorem parts_any (K L : List Nat) (A B : Option Addr) (n c m d : Nat) (size : Int) (w : World) (hn : K.length = n) (hm : L.length = m) (hr : Rd w w.heap.size A (numsV K)) (hs : Rd w w.heap.size B (numsV L)) (hc : n ≤ c) (hd : m ≤ d)
    (hc63 : c ≤ 9223372036854775807) (hd63 : d ≤ 9223372036854775807) (hb : ∀ x ∈ K, x < 18446744073709551616) (hb' : ∀ x ∈ L, x < 18446744073709551616) :
    Calls Try.prog 9 #[.int .i64 size, .slice A n c, .slice B m d] w fun e w' => e = .returned (.bool true) ∧ Below w.heap.size w w' := by
  go_enter Try.func9, Try.ntmps9
  go_upto_region 2 with (go_at_call 10; refine (shown_any _).mono ?_; rintro e w1 ⟨rfl, hb1⟩)
  go_cut [8, 9] (fun s8 s9 wc => ∃ k, s8 = .slice A (min n 200) c ∧ s9 = .slice B (min m 200) d ∧ wc = w1.drewN k)
  case first =>
    by_cases h1 : n ≤ 200 <;> by_cases h2 : m ≤ 200
    all_goals
      go_quiet (fail)
      go_wp2
      go_meet
      exact ⟨nq, by congr 1; omega, by congr 1; omega, rfl⟩
  case rest =>
    obtain ⟨k, rfl, rfl, rfl⟩ := hcut
    have hbk : Below w.heap.size w (w1.drewN k) := ⟨hb1.os, hb1.tape, hb1.output, hb1.size, hb1.block⟩
    have hn2 : (K.take 200).length = min n 200 := by rw [List.length_take, hn]; omega
    have hm2 : (L.take 200).length = min m 200 := by rw [List.length_take, hm]; omega
    have hr2 := ((hr.take 200).below hbk).more hbk.size
    have hs2 := ((hs.take 200).below hbk).more hbk.size
    rw [← numsV_take] at hr2 hs2
    have hb2 : ∀ x ∈ K.take 200, x < 18446744073709551616 := fun x hx => hb x (List.mem_of_mem_take hx)
    have hb2' : ∀ x ∈ L.take 200, x < 18446744073709551616 := fun x hx => hb' x (List.mem_of_mem_take hx)
    generalize K.take 200 = K2 at *
    generalize L.take 200 = L2 at *
    obtain ⟨a, ha⟩ : ∃ a, a = min n 200 := ⟨_, rfl⟩
    obtain ⟨b, hbb⟩ : ∃ b, b = min m 200 := ⟨_, rfl⟩
    have ha2 : a ≤ 200 := by omega
    have hb22 : b ≤ 200 := by omega
    rw [← ha] at hn2 ⊢
    rw [← hbb] at hm2 ⊢
    obtain ⟨w2, hw2⟩ : ∃ w2, w2 = w1.drewN k := ⟨_, rfl⟩
    rw [← hw2] at hbk hr2 hs2 ⊢
    have Hn := Lib.hid hn2
    have Hm := Lib.hid hm2
    clear ha hbb hw2 hn hm hr hs hb hb' hn2 hm2 hb1
    by_cases hsz : 1 ≤ size ∧ size ≤ 8
    · obtain ⟨h1, h8⟩ := hsz
      obtain ⟨s, rfl⟩ := Int.eq_ofNat_of_zero_le (show 0 ≤ size by omega)
      have hall : layB s (K2 ++ L2) = (layB s K2 && layB s L2) := layB_append s K2 L2 (by
        have : (a + b) * s ≤ 400 * 8 := Nat.mul_le_mul (by omega) (by omega)
        rw [Hn.out, Hm.out]; omega)
      have hlen : (K2 ++ L2).length = a + b := by rw [List.length_append, Hn.out, Hm.out]
      have hball : ∀ x ∈ K2 ++ L2, x < 18446744073709551616 := fun x hx => by
        rcases List.mem_append.1 hx with h | h
        · exact hb2 x h
        · exact hb2' x h
      have HL := Lib.hid hlen
      clear hlen
      cases hB1 : layB s K2 with
      | false =>
        rw [hB1, Bool.false_and] at hall
        have HB3 := Lib.hid hall
        have HB1 := Lib.hid hB1
        clear hall hB1
        cases hB2 : layB s L2 with
        | false =>
          have HB2 := Lib.hid hB2
          clear hB2
          go_wp2_with fail
          refine (lay_any K2 A a _ s w2 Hn.out hr2 (by omega) (by omega) hb2).mono ?_
          rintro e3 w3 hp
          obtain ⟨rfl, hb3⟩ := hp.2 HB1.out
          clear hp
          have hr3 := (hr2.below hb3).more hb3.size
          have hs3 := (hs2.below hb3).more hb3.size
          go_wp2_with fail
          refine (lay_any L2 B b _ s w3 Hm.out hs3 (by omega) (by omega) hb2').mono ?_
          rintro e4 w4 hp
          obtain ⟨rfl, hb4⟩ := hp.2 HB2.out
          clear hp
          have hr4 := (hr3.below hb4).more hb4.size
          have hs4 := (hs3.below hb4).more hb4.size
          have hlit := World.ownsRow_lit (base := w4.heap.size) (e := 23) (size := 1) w4 #[] 0 (Nat.le_refl _) (Nat.zero_le _) rfl
          have hbl : Below w4.heap.size w4 (w4.alloc (.cells #[] 23)) := (Below.refl _ _).alloc (Nat.le_refl _) _
          go_wp2_with (at_builtin; refine wpList_app23 _ rfl (.tmp 41) (.tmp 42) rfl w4.heap.size _ 0 [] rfl hlit w4.heap.size A a _ K2 rfl Hn.out (hr4.below hbl) (by omega) hbl.size ?_)
          intro v5 w5 hown5 hg5
          have hb5 : Below w4.heap.size w4 w5 := hbl.grown hg5 hbl.size (fun k hk => (hlit.lt k hk).1)
          clear hlit hg5
          go_wp2_with (at_builtin; refine wpList_app23 _ rfl (.tmp 43) (.tmp 44) rfl w4.heap.size _ a _ rfl hown5 w4.heap.size B b _ L2 rfl Hm.out (hs4.below hb5) (by omega) hb5.size ?_)
          intro v6 w6 hown6 hg6
          have hb6 : Below w4.heap.size w4 w6 := hb5.grown hg6 hb5.size (fun k hk => (hown5.lt k hk).1)
          obtain ⟨_, A6, c6, rfl, _, _, hrd6⟩ := own_rd hown6
          clear hown5 hg6 hown6
          go_wp2_with fail
          refine (lay_any (K2 ++ L2) A6 (a + b) _ s w6 HL.out hrd6 (by omega) (by omega) hball).mono ?_
          rintro e7 w7 hp
          obtain ⟨rfl, hb7⟩ := hp.2 HB3.out
          clear hp
          have hb24 := hb3.trans (hb4.mono hb3.size)
          have hb26 := hb24.trans (hb6.mono hb24.size)
          have hb27 := hb26.trans (hb7.mono hb26.size)
          go_wp2_with fail
          go_ret
          exact ⟨rfl, hbk.trans (hb27.mono hbk.size)⟩
        | true =>
          have HB2 := Lib.hid hB2
          clear hB2
          go_wp2_with fail
          refine (lay_any K2 A a _ s w2 Hn.out hr2 (by omega) (by omega) hb2).mono ?_
          rintro e3 w3 hp
          obtain ⟨rfl, hb3⟩ := hp.2 HB1.out
          clear hp
          have hr3 := (hr2.below hb3).more hb3.size
          have hs3 := (hs2.below hb3).more hb3.size
          go_wp2_with fail
          refine (lay_any L2 B b _ s w3 Hm.out hs3 (by omega) (by omega) hb2').mono ?_
          rintro e4 w4 hp
          obtain ⟨v4, rfl, hown4, hb4⟩ := hp.1 HB2.out
          obtain ⟨_, A4, c4, rfl, _, _, hrd4⟩ := own_rd hown4
          clear hp hown4
          have hr4 := (hr3.below hb4).more hb4.size
          have hs4 := (hs3.below hb4).more hb4.size
          have hlit := World.ownsRow_lit (base := w4.heap.size) (e := 23) (size := 1) w4 #[] 0 (Nat.le_refl _) (Nat.zero_le _) rfl
          have hbl : Below w4.heap.size w4 (w4.alloc (.cells #[] 23)) := (Below.refl _ _).alloc (Nat.le_refl _) _
          go_wp2_with (at_builtin; refine wpList_app23 _ rfl (.tmp 41) (.tmp 42) rfl w4.heap.size _ 0 [] rfl hlit w4.heap.size A a _ K2 rfl Hn.out (hr4.below hbl) (by omega) hbl.size ?_)
          intro v5 w5 hown5 hg5
          have hb5 : Below w4.heap.size w4 w5 := hbl.grown hg5 hbl.size (fun k hk => (hlit.lt k hk).1)
          clear hlit hg5
          go_wp2_with (at_builtin; refine wpList_app23 _ rfl (.tmp 43) (.tmp 44) rfl w4.heap.size _ a _ rfl hown5 w4.heap.size B b _ L2 rfl Hm.out (hs4.below hb5) (by omega) hb5.size ?_)
          intro v6 w6 hown6 hg6
          have hb6 : Below w4.heap.size w4 w6 := hb5.grown hg6 hb5.size (fun k hk => (hown5.lt k hk).1)
          obtain ⟨_, A6, c6, rfl, _, _, hrd6⟩ := own_rd hown6
          clear hown5 hg6 hown6
          go_wp2_with fail
          refine (lay_any (K2 ++ L2) A6 (a + b) _ s w6 HL.out hrd6 (by omega) (by omega) hball).mono ?_
          rintro e7 w7 hp
          obtain ⟨rfl, hb7⟩ := hp.2 HB3.out
          clear hp
          have hb24 := hb3.trans (hb4.mono hb3.size)
          have hb26 := hb24.trans (hb6.mono hb24.size)
          have hb27 := hb26.trans (hb7.mono hb26.size)
          go_wp2_with fail
          go_ret
          exact ⟨rfl, hbk.trans (hb27.mono hbk.size)⟩
      | true =>
        cases hB2 : layB s L2 with
        | false =>
          rw [hB1, hB2, Bool.and_false] at hall
          have HB3 := Lib.hid hall
          have HB1 := Lib.hid hB1
          have HB2 := Lib.hid hB2
          clear hall hB1 hB2
          go_wp2_with fail
          refine (lay_any K2 A a _ s w2 Hn.out hr2 (by omega) (by omega) hb2).mono ?_
          rintro e3 w3 hp
          obtain ⟨v3, rfl, hown3, hb3⟩ := hp.1 HB1.out
          obtain ⟨_, A3, c3, rfl, _, _, hrd3⟩ := own_rd hown3
          clear hp hown3
          have hr3 := (hr2.below hb3).more hb3.size
          have hs3 := (hs2.below hb3).more hb3.size
          go_wp2_with fail
          refine (lay_any L2 B b _ s w3 Hm.out hs3 (by omega) (by omega) hb2').mono ?_
          rintro e4 w4 hp
          obtain ⟨rfl, hb4⟩ := hp.2 HB2.out
          clear hp
          have hr4 := (hr3.below hb4).more hb4.size
          have hs4 := (hs3.below hb4).more hb4.size
          have hlit := World.ownsRow_lit (base := w4.heap.size) (e := 23) (size := 1) w4 #[] 0 (Nat.le_refl _) (Nat.zero_le _) rfl
          have hbl : Below w4.heap.size w4 (w4.alloc (.cells #[] 23)) := (Below.refl _ _).alloc (Nat.le_refl _) _
          go_wp2_with (at_builtin; refine wpList_app23 _ rfl (.tmp 41) (.tmp 42) rfl w4.heap.size _ 0 [] rfl hlit w4.heap.size A a _ K2 rfl Hn.out (hr4.below hbl) (by omega) hbl.size ?_)
          intro v5 w5 hown5 hg5
          have hb5 : Below w4.heap.size w4 w5 := hbl.grown hg5 hbl.size (fun k hk => (hlit.lt k hk).1)
          clear hlit hg5
          go_wp2_with (at_builtin; refine wpList_app23 _ rfl (.tmp 43) (.tmp 44) rfl w4.heap.size _ a _ rfl hown5 w4.heap.size B b _ L2 rfl Hm.out (hs4.below hb5) (by omega) hb5.size ?_)
          intro v6 w6 hown6 hg6
          have hb6 : Below w4.heap.size w4 w6 := hb5.grown hg6 hb5.size (fun k hk => (hown5.lt k hk).1)
          obtain ⟨_, A6, c6, rfl, _, _, hrd6⟩ := own_rd hown6
          clear hown5 hg6 hown6
          go_wp2_with fail
          refine (lay_any (K2 ++ L2) A6 (a + b) _ s w6 HL.out hrd6 (by omega) (by omega) hball).mono ?_
          rintro e7 w7 hp
          obtain ⟨rfl, hb7⟩ := hp.2 HB3.out
          clear hp
          have hb24 := hb3.trans (hb4.mono hb3.size)
          have hb26 := hb24.trans (hb6.mono hb24.size)
          have hb27 := hb26.trans (hb7.mono hb26.size)
          go_wp2_with fail
          go_ret
          exact ⟨rfl, hbk.trans (hb27.mono hbk.size)⟩
        | true =>
          rw [hB1, hB2, Bool.and_true] at hall
          have HB3 := Lib.hid hall
          have HB1 := Lib.hid hB1
          have HB2 := Lib.hid hB2
          clear hall hB1 hB2
          go_wp2_with fail
          refine (lay_any K2 A a _ s w2 Hn.out hr2 (by omega) (by omega) hb2).mono ?_
          rintro e3 w3 hp
          obtain ⟨v3, rfl, hown3, hb3⟩ := hp.1 HB1.out
          obtain ⟨_, A3, c3, rfl, _, _, hrd3⟩ := own_rd hown3
          clear hp hown3
          have hr3 := (hr2.below hb3).more hb3.size
          have hs3 := (hs2.below hb3).more hb3.size
          go_wp2_with fail
          refine (lay_any L2 B b _ s w3 Hm.out hs3 (by omega) (by omega) hb2').mono ?_
          rintro e4 w4 hp
          obtain ⟨v4, rfl, hown4, hb4⟩ := hp.1 HB2.out
          obtain ⟨_, A4, c4, rfl, _, _, hrd4⟩ := own_rd hown4
          clear hp hown4
          have hr4 := (hr3.below hb4).more hb4.size
          have hs4 := (hs3.below hb4).more hb4.size
          have hlit := World.ownsRow_lit (base := w4.heap.size) (e := 23) (size := 1) w4 #[] 0 (Nat.le_refl _) (Nat.zero_le _) rfl
          have hbl : Below w4.heap.size w4 (w4.alloc (.cells #[] 23)) := (Below.refl _ _).alloc (Nat.le_refl _) _
          go_wp2_with (at_builtin; refine wpList_app23 _ rfl (.tmp 41) (.tmp 42) rfl w4.heap.size _ 0 [] rfl hlit w4.heap.size A a _ K2 rfl Hn.out (hr4.below hbl) (by omega) hbl.size ?_)
          intro v5 w5 hown5 hg5
          have hb5 : Below w4.heap.size w4 w5 := hbl.grown hg5 hbl.size (fun k hk => (hlit.lt k hk).1)
          clear hlit hg5
          go_wp2_with (at_builtin; refine wpList_app23 _ rfl (.tmp 43) (.tmp 44) rfl w4.heap.size _ a _ rfl hown5 w4.heap.size B b _ L2 rfl Hm.out (hs4.below hb5) (by omega) hb5.size ?_)
          intro v6 w6 hown6 hg6
          have hb6 : Below w4.heap.size w4 w6 := hb5.grown hg6 hb5.size (fun k hk => (hown5.lt k hk).1)
          obtain ⟨_, A6, c6, rfl, _, _, hrd6⟩ := own_rd hown6
          clear hown5 hg6 hown6
          go_wp2_with fail
          refine (lay_any (K2 ++ L2) A6 (a + b) _ s w6 HL.out hrd6 (by omega) (by omega) hball).mono ?_
          rintro e7 w7 hp
          obtain ⟨v7, rfl, hown7, hb7⟩ := hp.1 HB3.out
          obtain ⟨_, A7, c7, rfl, _, _, hrd7⟩ := own_rd hown7
          clear hp hown7
          have hb24 := hb3.trans (hb4.mono hb3.size)
          have hb26 := hb24.trans (hb6.mono hb24.size)
          have hb27 := hb26.trans (hb7.mono hb26.size)
          have hb46 := hb6.trans (hb7.mono hb6.size)
          have hcv3 := str_fact (c := c3) hrd3 (hb4.trans (hb46.mono hb4.size)) rfl
          have hcv4 := str_fact (c := c4) hrd4 hb46 rfl
          have hcv7 : (convert 22 9 (.slice A7 (layl s (K2 ++ L2)).length c7)).run Try.prog w7 = .ok (.string ⟨(layl s K2 ++ layl s L2).toArray⟩) w7 := (str_fact (c := c7) hrd7 (Below.refl _ _) rfl).trans (by rw [layl_append])
          have h1' : a * s ≤ 200 * 8 := Nat.mul_le_mul (by omega) (by omega)
          have h2' : b * s ≤ 200 * 8 := Nat.mul_le_mul (by omega) (by omega)
          have hk1 : (layl s K2).length ≤ 1600 := by rw [length_layl, Hn.out]; omega
          have hk2 : (layl s L2).length ≤ 1600 := by rw [length_layl, Hm.out]; omega
          go_wp2_with fail
          go_ret
          refine ⟨?_, hbk.trans (hb27.mono hbk.size)⟩
          have e : (layl s K2 ++ layl s L2 == (ByteArray.mk (layl s K2).toArray ++ ByteArray.mk (layl s L2).toArray).toList) = true := by
            rw [ByteArray.mk_append_mk]
            simp
          exact congrArg (fun b => Ending.returned (.bool b)) e
    · have HZ := Lib.hid hsz
      clear hsz
      have hlit := World.ownsRow_lit (base := w2.heap.size) (e := 23) (size := 1) w2 #[] 0 (Nat.le_refl _) (Nat.zero_le _) rfl
      have hbl : Below w2.heap.size w2 (w2.alloc (.cells #[] 23)) := (Below.refl _ _).alloc (Nat.le_refl _) _
      go_wp2_with fail
      refine (lay_arg _ _ _ _ _ HZ.out).mono ?_
      rintro e3 w3 ⟨rfl, rfl⟩
      go_wp2_with fail
      refine (lay_arg _ _ _ _ _ HZ.out).mono ?_
      rintro e3 w3 ⟨rfl, rfl⟩
      go_wp2_with (at_builtin; refine wpList_app23 _ rfl (.tmp 41) (.tmp 42) rfl w2.heap.size _ 0 [] rfl hlit w2.heap.size A a _ K2 rfl Hn.out (hr2.below hbl) (by omega) hbl.size ?_)
      intro v3 w3 hown3 hg3
      have hb3 : Below w2.heap.size w2 w3 := hbl.grown hg3 hbl.size (fun k hk => (hlit.lt k hk).1)
      clear hlit hg3
      go_wp2_with (at_builtin; refine wpList_app23 _ rfl (.tmp 43) (.tmp 44) rfl w2.heap.size _ a _ rfl hown3 w2.heap.size B b _ L2 rfl Hm.out (hs2.below hb3) (by omega) hb3.size ?_)
      intro v4 w4 hown4 hg4
      have hb4 : Below w2.heap.size w2 w4 := hb3.grown hg4 hb3.size (fun k hk => (hown3.lt k hk).1)
      obtain ⟨_, A4, c4, rfl, _, _, _⟩ := own_rd hown4
      clear hown3 hg4 hown4
      go_wp2_with fail
      refine (lay_arg _ _ _ _ _ HZ.out).mono ?_
      rintro e5 w5 ⟨rfl, rfl⟩
      go_wp2_with fail
      go_ret
      exact ⟨rfl, hbk.trans (hb4.mono hbk.size)⟩

theorem parts_contract (H : Type) (enc : TypeId × Value → H) (W : World) (base : Nat) (args : Array Value) (ds gs : List (DataW H)) (before : List MemPlace)
    (hval : ∀ (j : Nat) t v, Try.f9.params[j]? = some t → args[j]? = some v → Value.okWide Try.prog W .any base t v)
    (hW : DataW.Whole enc Try.prog Try.f9.params.toList Rows.fieldPartsSpec.vars false W args.toList ds gs before) :
    Calls Try.prog 9 args W fun e W' => ∃ v, e = .returned v ∧ Rows.fieldPartsSpec.post enc Try.prog Try.f9 false true false false W args v W' := by
  have hW' := hW
  have hlt : ∀ x ∈ before, x.block < W.heap.size := fun x hx => hW.lt x hx
  obtain ⟨p, q, hA0, hV, rfl, _, _⟩ := hW
  have hA : DataW.TrodAll enc Try.prog W 0 (fun _ => true) true Try.f9.params.toList args.toList ds p := hA0
  rw [Try.params9] at hA hval
  obtain ⟨v0, vs0, d0, ds0, p0, q0, hargs, rfl, rfl, h0, r0⟩ := trodAll_cons hA
  obtain ⟨v1, vs1, d1, ds1, p1, q1, rfl, rfl, rfl, h1, r1⟩ := trodAll_cons r0
  obtain ⟨v2, vs2, d2, ds2, p2, q2, rfl, rfl, rfl, h2, r2⟩ := trodAll_cons r1
  obtain ⟨rfl, rfl, rfl⟩ := trodAll_nil r2
  obtain rfl : args = #[v0, v1, v2] := by cases args; simp_all
  obtain ⟨rfl, rfl⟩ := trodVars_none hV
  clear hA0
  obtain ⟨a0, rfl, rfl, rfl, wa0⟩ := open_int Try.underlying3 (hval 0 3 v0 rfl rfl) h0
  have bd0 := bounds_i64 wa0
  obtain ⟨A1, n1, c1, l1, rfl, hn1, hc1, hm1, hr1, hb1⟩ := open_numsL Try.underlying32 Try.underlying23 cells23 (hval 1 32 v1 rfl rfl) h1 (fun x hx => hlt x (by simp [hx]))
  unfold maxLen at hm1
  obtain ⟨A2, n2, c2, l2, rfl, hn2, hc2, hm2, hr2, hb2⟩ := open_numsL Try.underlying32 Try.underlying23 cells23 (hval 2 32 v2 rfl rfl) h2 (fun x hx => hlt x (by simp [hx]))
  unfold maxLen at hm2
  refine (parts_any l1 l2 A1 A2 n1 c1 n2 c2 a0 W hn1 hn2 hr1 hr2 hc1 hc2 (by omega) (by omega) hb1 hb2).mono fun e W' ⟨he, hb⟩ => ?_
  subst he
  exact ⟨_, rfl, law_post laid (by kernel_rfl) Try.underlying4 (by rw [Try.params9]; decide +kernel) rfl hW' ⟨rfl, rfl, rfl⟩ hb⟩

set_option maxRecDepth 100000 in
theorem parts_lifted (os : Os) (started : os.Started) (H : Type) (enc : TypeId × Value → H) :
    ReturnsInHanded {} Try.checked os 9 .any (Rows.fieldPartsSpec.pre6 enc Try.prog Try.f9 Rows.fieldPartsRow.domain false) (Rows.fieldPartsSpec.post enc Try.prog Try.f9 false true false false) := by
  refine returnsInHanded_of_change (C := Try.checked) own started (by kernel_rfl) Try.func9
    (ChangeSpec.witness6 (enc := enc) (C := Try.checked) false ⟨#[], #[.int .i64 0, .slice none 0 0, .slice none 0 0], []⟩ 8 (by kernel_rfl) (by kernel_rfl) (by kernel_rfl) (by kernel_rfl)) ?_
  intro W base args ds gs before hval hW _ _
  exact parts_contract H enc W base args ds gs before hval hW

/-- FieldParts is true for every input. -/
theorem parts_holds : Rows.FieldPartsSaid :=
  OpenClaim.holds_of_wide 9 Try.f9 rfl rfl rfl rfl rfl rfl rfl ⟨rfl, rfl, rfl, rfl, rfl⟩ rfl rfl rfl rfl rfl (by kernel_rfl) Try.func9 (by kernel_rfl)
    (of_decide_eq_true (by kernel_rfl)) (by unfold Func.isWrapper; first | (rw [if_pos (by decide +kernel)]; kernel_rfl) | (rw [if_neg (by decide +kernel)]; exact ⟨rfl, rfl⟩))
    (fun os started H enc _ => parts_lifted os started H enc)
end Go.Proofs.Ytklhikekjfankaa
