/-
  The superblock of a geometry: what the document's own answer is.
-/
import Derived.Test.YtcedpmakomhigaaR3
import Derived.ArgAppend
namespace Go.Proofs.Ytcedpmakomhigaa
open Go.RowKit

/-- append that has no room: new memory. -/
theorem wpList_grow5 (w : World) {ops : Array Oper} {rest : List Oper} {o : Oper} {a : Act} {Q : Exit → Act → World → Prop} (hgd : o.guard = none) (s x : Operand)
    (ho : o.op = .call { callee := .builtin .append, args := #[s, x], argTypes := #[35, 35] })
    (g og n cap : Nat) (l : List UInt8) (hs : a.eval s = .slice (some ⟨g, og, none⟩) n cap) (hn : l.length = n) (hr : Rd w w.heap.size (some ⟨g, og, none⟩) (bytesV l)) (h0 : 0 < n)
    (A : Option Addr) (m c : Nat) (k : List UInt8) (hx : a.eval x = .slice A m c) (hm : k.length = m) (hrk : Rd w w.heap.size A (bytesV k)) (h0m : 0 < m) (hfull : cap < n + m) (hbytes : n + m ≤ 140737488355328)
    (h : ∀ v' w', w'.ownsRow w.heap.size 5 1 v' (n + m) (bytesV (l ++ k)) → w.grownBy w' none → wpList Try.prog ops Q rest (a.put o.dst v') w') : wpList Try.prog ops Q (o :: rest) a w := by
  obtain ⟨i0, hi, hz0, hz1, hz2⟩ := info_parts info5
  rw [bytesV_append] at h
  rcases hrk with e | ⟨b, ob, rfl, hb, hc⟩
  · exfalso
    have h1 : k.length = 0 := by rw [← length_bytesV, e]; rfl
    omega
  rcases hr with e | ⟨g', og', hA, hg, hcg⟩
  · exfalso
    have h1 : l.length = 0 := by rw [← length_bytesV, e]; rfl
    omega
  injection hA with hA
  injection hA with hA1 hA2
  subst hA1 hA2
  exact wpList_append_grows w hgd s x 35 ho 5 i0 _ 1 1 Try.underlying35 hi hz0 hz1 hz2 rfl (by decide) _ n cap (bytesV l) hs (fun h => by cases h) (by rw [length_bytesV, hn, Nat.mul_one])
    (fun b hb j u hu => by
      injection hb with hb
      subst hb
      rw [Addr.add_lit]
      exact hcg j u hu) _ m c (bytesV k) hx (by rw [length_bytesV, hm, Nat.mul_one])
    (fun j u hu => by
      rw [Addr.add_lit]
      exact hc j u hu) (bytesV_one k) hfull (by simp only [maxLen]; omega) (by omega) h

set_option maxHeartbeats 1600000 in
set_option maxRecDepth 100000 in
theorem rlay_yes {J I G P : Nat} (h : Valid J I G P) (w : World) : Calls Try.prog 19 #[geoV J I G P] w fun e w' => ∃ v, e = .returned (.tuple #[v, .int .i64 0]) ∧ Made w (superL J I G P) v w' := by
  have H := Lib.hid h
  have p2 := h.p2
  obtain ⟨j1, j2, i1, i2, i3, g1, g2, p1, gp⟩ := h
  unfold geoV
  go_enter Try.func19, Try.ntmps19
  go_wp2_with fail
  refine (rright_yes H.out _).mono ?_
  rintro e w1 ⟨rfl, hbx⟩
  obtain ⟨k0, k1, k2, k3, hb0, hs0⟩ := boxed_cells hbx
  have HB0 := Lib.hid hb0
  obtain ⟨wm, kc, hrm, hbm, hsm⟩ := mark_made w1
  have HRm := Lib.hid hrm
  have HBm := Lib.hid hbm
  have K1 := Lib.hid k1
  have K2 := Lib.hid k2
  have K3 := Lib.hid k3
  have k0m := (hbm.cell (p := ⟨w.heap.size, 0, none⟩) hs0).trans k0
  clear hbx hb0 hrm hbm k0 k1 k2 k3
  go_wp2_with fail
  clear kc k0m
  refine (num_any J 2 _ (by omega) (by omega)).mono ?_
  rintro e w2 ⟨v2, rfl, hown2, hb2⟩
  obtain ⟨_, A2, c2, rfl, hc2, _, hr2⟩ := own_rd hown2
  have hrm2 := (HRm.out.below hb2).more hb2.size
  have HB2 := Lib.hid (HBm.out.trans (hb2.mono HBm.out.size))
  clear hown2 hb2
  go_wp2_with (at_builtin; refine wpList_grow5 _ rfl (.tmp 12) (.tmp 16) rfl w1.heap.size 0 4 4 markL rfl rfl hrm2 (by omega) A2 2 c2 (digs J 2) rfl (length_digs _ _) hr2 (by omega) (by omega) (by omega) ?_)
  intro v3 w3 hown hg
  have HB3 := Lib.hid (HB2.out.grown hg HB2.out.size (fun k hk => by cases hk))
  obtain ⟨L3, hL3⟩ : ∃ L, L = markL ++ digs J 2 := ⟨_, rfl⟩
  rw [← hL3] at hown
  have HL3 := Lib.hid hL3
  have HO3 := Lib.hid (own_mono hown HB2.out.size)
  have k' := (HB3.out.cell (p := ⟨w.heap.size, 1, none⟩) hs0).trans K1.out
  clear hown hg hrm2 hr2 hL3
  go_wp2_with fail
  clear k'
  refine (num_any I 2 _ (by omega) (by omega)).mono ?_
  rintro e w4 ⟨v4, rfl, hown4, hb4⟩
  obtain ⟨_, A4, c4, rfl, hc4, _, hr4⟩ := own_rd hown4
  have ho3 := own_below HO3.out hb4
  have HB4 := Lib.hid (HB3.out.trans (hb4.mono HB3.out.size))
  have hsz4 := HB4.out.size
  clear hown4 hb4
  go_wp2_with (at_builtin; refine wpList_app5 _ rfl (.tmp 18) (.tmp 22) rfl w1.heap.size v3 6 L3 rfl ho3 w4.heap.size A4 2 c4 (digs I 2) rfl (length_digs _ _) hr4 (by omega) hsz4 ?_)
  intro v5 w5 hown hg
  have HB5 := Lib.hid (HB4.out.grown hg HB4.out.size (fun k hk => (ho3.lt k hk).1))
  obtain ⟨L5, hL5⟩ : ∃ L, L = L3 ++ digs I 2 := ⟨_, rfl⟩
  rw [← hL5] at hown
  have HL5 := Lib.hid hL5
  have HO5 := Lib.hid hown
  have k' := (HB5.out.cell (p := ⟨w.heap.size, 2, none⟩) hs0).trans K2.out
  clear hown hg ho3 hr4 hL5 hsz4
  go_wp2_with fail
  clear k'
  refine (num_any G 2 _ (by omega) (by omega)).mono ?_
  rintro e w6 ⟨v6, rfl, hown6, hb6⟩
  obtain ⟨_, A6, c6, rfl, hc6, _, hr6⟩ := own_rd hown6
  have ho5 := own_below HO5.out hb6
  have HB6 := Lib.hid (HB5.out.trans (hb6.mono HB5.out.size))
  have hsz6 := HB6.out.size
  clear hown6 hb6
  go_wp2_with (at_builtin; refine wpList_app5 _ rfl (.tmp 24) (.tmp 28) rfl w1.heap.size v5 8 L5 rfl ho5 w6.heap.size A6 2 c6 (digs G 2) rfl (length_digs _ _) hr6 (by omega) hsz6 ?_)
  intro v7 w7 hown hg
  have HB7 := Lib.hid (HB6.out.grown hg HB6.out.size (fun k hk => (ho5.lt k hk).1))
  obtain ⟨L7, hL7⟩ : ∃ L, L = L5 ++ digs G 2 := ⟨_, rfl⟩
  rw [← hL7] at hown
  have HL7 := Lib.hid hL7
  have HO7 := Lib.hid hown
  have k' := (HB7.out.cell (p := ⟨w.heap.size, 3, none⟩) hs0).trans K3.out
  clear hown hg ho5 hr6 hL7 hsz6
  go_wp2_with fail
  clear k'
  refine (num_any P 2 _ (by omega) (by omega)).mono ?_
  rintro e w8 ⟨v8, rfl, hown8, hb8⟩
  obtain ⟨_, A8, c8, rfl, hc8, _, hr8⟩ := own_rd hown8
  have ho7 := own_below HO7.out hb8
  have HB8 := Lib.hid (HB7.out.trans (hb8.mono HB7.out.size))
  have hsz8 := HB8.out.size
  clear hown8 hb8
  go_wp2_with (at_builtin; refine wpList_app5 _ rfl (.tmp 30) (.tmp 34) rfl w1.heap.size v7 10 L7 rfl ho7 w8.heap.size A8 2 c8 (digs P 2) rfl (length_digs _ _) hr8 (by omega) hsz8 ?_)
  intro v9 w9 hown hg
  have HB9 := Lib.hid (HB8.out.grown hg HB8.out.size (fun k hk => (ho7.lt k hk).1))
  obtain ⟨L9, hL9⟩ : ∃ L, L = L7 ++ digs P 2 := ⟨_, rfl⟩
  rw [← hL9] at hown
  have HL9 := Lib.hid hL9
  have HO9 := Lib.hid hown
  clear hown hg ho7 hr8 hL9 hsz8
  have hL : L9 = headL J I G P := by rw [HL9.out, HL7.out, HL5.out, HL3.out]; simp [headL, layl]
  rw [hL] at HO9
  obtain ⟨_, A9, c9, rfl, hc9, _, hr9⟩ := own_rd HO9.out
  have HR9 := Lib.hid hr9
  have Hl9 := Lib.hid (length_headL J I G P)
  have HC := Lib.hid (HB0.out.trans (HB9.out.mono HB0.out.size))
  clear hr9 hL
  go_wp2_with (first
    | (go_at_call 28; refine (rfill_ok (headL J I G P) A9 12 c9 60 _ Hl9.out HR9.out (by omega) (by omega)).mono ?_; rintro e w10 ⟨v, rfl, hown10, hb10⟩; have Hl10 := Lib.hid (show (padl (headL J I G P) 60).length = 60 from length_padl _ _ (by rw [length_headL]; omega)); rw [Hl10.out] at hown10; obtain ⟨hl10, A10, c10, rfl, hc10, _, hr10⟩ := own_rd hown10; have HR10 := Lib.hid hr10; have HC10 := Lib.hid (HC.out.trans (hb10.mono HC.out.size)); clear hown10 hb10 hr10 hl10)
    | (go_at_call 29; refine (rseal_any (padl (headL J I G P) 60) A10 60 c10 _ Hl10.out HR10.out (by omega)).mono ?_; rintro e w11 ⟨v, rfl, hm11⟩; have HM11 := Lib.hid hm11; clear hm11))
  go_ret2
  exact ⟨_, rfl, own_mono HM11.out.1 HC10.out.size, HC10.out.trans (HM11.out.2.mono HC10.out.size)⟩

theorem rlay_no {j i g p : Int} (h : ¬ Valid j i g p) (w : World) : Calls Try.prog 19 #[geoV j i g p] w fun e w' => e = .returned (.tuple #[.slice none 0 0, .int .i64 1]) ∧ Below w.heap.size w w' := by
  have H := Lib.hid h
  clear h
  unfold geoV
  go_enter Try.func19, Try.ntmps19
  go_wp2_with (go_at_call 15; refine (rright_no H.out _).mono ?_; rintro e w' ⟨rfl, n, rfl⟩)
  go_ret2
  refine ⟨rfl, ?_⟩
  repeat (first | with_reducible exact Below.refl _ _ | with_reducible refine below_drewN ?_ _ | with_reducible refine Below.setCell ?_ ?_ _ | with_reducible refine Below.alloc ?_ ?_ _)
  all_goals (simp <;> omega)
end Go.Proofs.Ytcedpmakomhigaa
