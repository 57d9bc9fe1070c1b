/-
  A journal is opened.
-/
import Derived.Test.YtnkpmmijdkcdjaaX7
namespace Go.Proofs.Ytnkpmmijdkcdjaa
open Go.RowKit
attribute [local go_sem ↓] Go.wp_at_zero Go.wp_at_succ

/-- Where Open's failed steps come together. -/
def OFail (v0 v1 v2 : Value) (R : Int → World → Prop) (a : Act) (w : World) : Prop :=
  ∃ (e : Int) (u3 u4 u5 u6 u7 u8 u9 u10 u11 u13 u14 u15 u16 u17 u18 u19 u20 u21 u22 u23 u24 u25 u26 u27 u28 u29 u30 u31 u32 u33 u34 u35 u36 u37 u38 u39 u40 u41 u42 u43 u44 u45 u46 u47 u48 u49 u50 u51 u52 u53 u54 u55 u56 u57 : Value), a = { tmps := #[v0, v1, v2, u3, u4, u5, u6, u7, u8, u9, u10, u11, .int .i64 e, u13, u14, u15, u16, u17, u18, u19, u20, u21, u22, u23, u24, u25, u26, u27, u28, u29, u30, u31, u32, u33, u34, u35, u36, u37, u38, u39, u40, u41, u42, u43, u44, u45, u46, u47, u48, u49, u50, u51, u52, u53, u54, u55, u56, u57], defers := [] } ∧ R e w

def Dk.opened (k : Dk Sx) (start q : Nat) (l : List (Nat × Sx)) : Int × Dk Sx := if l = [] then (0, k) else k.finish start q l

section
variable {w : World} {S : Nat → Prop} {b start n : Nat} {k : Dk Sx}
theorem open_nil (w : World) (s n : Int) : Calls Try.prog 13 #[.pointer none, .int .i64 s, .int .i64 n] w fun e w' => e = .returned (.tuple #[.pointer none, .int .i64 0, .int .i64 2]) ∧ w = w' := by
  go_enter Try.func13, Try.ntmps13
  go_wp2
  refine wp_scope_labels 0 0 (fun _ _ => False) (OFail (.pointer none) (.int .i64 s) (.int .i64 n) (fun e w' => e = 2 ∧ w = w')) (fun _ _ => 0) rfl rfl ?_ (fun _ _ h => h.elim) ?_
  · go_wp2_with (go_at_call 27; refine (misplaced_nil _ _ _).mono ?_; rintro e w' ⟨rfl, rfl⟩)
    go_step3
    exact .inr ⟨rfl, _, _, _, _, _, _, _, _, _, _, _, _, _, _, _, _, _, _, _, _, _, _, _, _, _, _, _, _, _, _, _, _, _, _, _, _, _, _, _, _, _, _, _, _, _, _, _, _, _, _, _, _, _, _, _, rfl, rfl, rfl⟩
  · rintro a w1 ⟨e, u3, u4, u5, u6, u7, u8, u9, u10, u11, u13, u14, u15, u16, u17, u18, u19, u20, u21, u22, u23, u24, u25, u26, u27, u28, u29, u30, u31, u32, u33, u34, u35, u36, u37, u38, u39, u40, u41, u42, u43, u44, u45, u46, u47, u48, u49, u50, u51, u52, u53, u54, u55, u56, u57, rfl, rfl, rfl⟩
    go_wp2
    rw [jumps_ret]
    go_ret3
    exact ⟨rfl, rfl⟩

/-- What an opening ends in. -/
def ORes (S : Nat → Prop) (w : World) (b start n q m : Nat) (c : Int × Dk Sx) (v : Value) (w' : World) : Prop :=
  (c.1 = 0 ∧ ∃ bj, v = .tuple #[.pointer (some ⟨bj, 0, none⟩), .int .i64 (m : Int), .int .i64 0] ∧ w.heap.size ≤ bj ∧ Kept S w w' ∧ ∃ S', IsDisk sx w' S' b c.2 ∧ (∀ i, S' i → S i ∨ w.heap.size ≤ i) ∧ JB w' bj b start n q ∧ ¬ S' bj) ∨
  (c.1 ≠ 0 ∧ v = .tuple #[.pointer none, .int .i64 0, .int .i64 c.1] ∧ Turned sx S w w' b c.2)

set_option maxRecDepth 100000 in
set_option maxHeartbeats 3200000 in
theorem open_good (hD : IsDisk sx w S b k) (hd : k.dead = false) (hs : start ≤ 4096) (hn3 : 3 ≤ n) (hn : n ≤ 4096) (hsn : start + n ≤ k.safe.length) (hlen : k.safe.length ≤ 4096) (hun : k.un.length ≤ 100000) (c : Sx) (hc : k.now[start]? = some c) (q : Nat) (l : List (Nat × Sx)) (m : Nat) (hm : l.length = m) (hh : IsHead c q m) (hr : m ≤ room n)
    (hL : Loads k.now start l) (hp : ∀ p ∈ l, takesB k.safe.length start n (p.1 : Int) = true) :
    Calls Try.prog 13 #[.pointer (some ⟨b, 0, none⟩), .int .i64 (start : Int), .int .i64 (n : Int)] w fun e w' => ∃ v, e = .returned v ∧ ORes S w b start n q m (k.opened start q l) v w' := by
  have hm4 : m ≤ 4096 := by unfold room at hr; omega
  have hql := hh.lt.1
  have HD := Lib.hid hD
  have Hd := Lib.hid hd
  have Hc := Lib.hid hc
  have Hh := Lib.hid hh
  have HL := Lib.hid hL
  have Hp := Lib.hid hp
  have Hm := Lib.hid hm
  have Hsn := Lib.hid hsn
  have Hlen := Lib.hid hlen
  have Hun := Lib.hid hun
  have HMis := Lib.hid (misplaced_any hD hn3 hn hlen hsn)
  generalize hcc : k.opened start q l = cc
  have Hcc := Lib.hid hcc
  clear hD hd hc hh hL hp hm hsn hlen hun hcc
  have e1 : (w.alloc (.cells #[.pointer (some ⟨b, 0, none⟩), .int .i64 (start : Int), .int .i64 (n : Int), .int .u64 0] 68)).heap.size = w.heap.size + 1 := by simp
  have hB0 := Bk.new w 68 [.pointer (some ⟨b, 0, none⟩), .int .i64 (start : Int), .int .i64 (n : Int), .int .u64 0]
  have hJ0 : JB (w.alloc (.cells #[.pointer (some ⟨b, 0, none⟩), .int .i64 (start : Int), .int .i64 (n : Int), .int .u64 0] 68)) w.heap.size b start n 0 := hB0
  have hb0 : Below w.heap.size w (w.alloc (.cells #[.pointer (some ⟨b, 0, none⟩), .int .i64 (start : Int), .int .i64 (n : Int), .int .u64 0] 68)) := (Below.refl _ _).alloc (Nat.le_refl _) _
  have HB0 := Lib.hid hB0
  have HJ0 := Lib.hid hJ0
  have Hb0 := Lib.hid hb0
  have E1 := Lib.hid e1
  clear hB0 hJ0 hb0 e1
  go_enter Try.func13, Try.ntmps13
  go_wp2
  refine wp_scope_labels 0 0 (fun _ _ => False) (OFail (.pointer (some ⟨b, 0, none⟩)) (.int .i64 (start : Int)) (.int .i64 (n : Int)) (fun e w' => ORes S w b start n q m cc (.tuple #[.pointer none, .int .i64 0, .int .i64 e]) w')) (fun _ _ => 0) rfl rfl ?_ (fun _ _ h => h.elim) ?_
  · go_wp2_with (go_at_call 27; refine HMis.out.mono ?_; rintro e w' ⟨rfl, rfl⟩)
    refine (readHead_any HJ0.out (HD.out.below Hb0.out) hn3 hn Hd.out c Hc.out q m Hh.out hr).mono ?_
    rintro e w1 ⟨rfl, hb1⟩
    have hJ1 : JB w1 w.heap.size b start n 0 := (hb1.block w.heap.size (by rw [E1.out]; exact Nat.lt_succ_self _)).trans HJ0.out
    have cz := hJ1.cell 3
    have fz := hJ1.frozen 3
    have hBel : Below w.heap.size w (w1.setCell ⟨w.heap.size, 3, none⟩ (.int .u64 (q : Int))) := (Hb0.out.trans (hb1.mono Hb0.out.size)).setCell (p := ⟨w.heap.size, 3, none⟩) (Nat.le_refl _) _
    have hJ2 : JB (w1.setCell ⟨w.heap.size, 3, none⟩ (.int .u64 (q : Int))) w.heap.size b start n q := hJ1.set 3 _
    obtain ⟨w2, hw2⟩ : ∃ w2, w2 = w1.setCell ⟨w.heap.size, 3, none⟩ (.int .u64 (q : Int)) := ⟨_, rfl⟩
    rw [← hw2] at hBel hJ2
    have c2 := hJ2.cell 3
    have HB2 := Lib.hid hBel
    have HJ2 := Lib.hid hJ2
    have HW2 := Lib.hid hw2
    have hnS : ¬ S w.heap.size := fun h => by have := HD.out.lt h; omega
    have HnS := Lib.hid hnS
    clear hb1 hJ1 hBel hJ2 hw2 hnS
    by_cases hm0 : m = 0
    · subst hm0
      clear c2
      go_wp2
      rw [jumps_ret]
      go_ret3
      refine ⟨_, rfl, .inl ?_⟩
      have hl : l = [] := List.eq_nil_of_length_eq_zero Hm.out
      have hcc : cc = (0, k) := by rw [← Hcc.out, Dk.opened, if_pos hl]
      rw [hcc, ← HW2.out]
      exact ⟨rfl, w.heap.size, rfl, Nat.le_refl _, Kept.of_below HB2.out, S, HD.out.below HB2.out, fun i hi => .inl hi, HJ2.out, HnS.out⟩
    · have hmb : ((m : Int) == 0) = false := beq_eq_false_iff_ne.2 (by omega)
      have Hl := Lib.hid (jload_any (S := S) (k := k) HJ2.out (HD.out.below HB2.out) Hd.out hs hn l m Hm.out hm4 HL.out (fun p hp => ⟨by have := (takes_lt (Hp.out p hp)).1; have := Hlen.out; omega, Hp.out p hp⟩))
      go_wp2_with fail
      rw [← HW2.out]
      refine Hl.out.mono ?_
      rintro e w3 ⟨gl, rfl, hP3, hb3⟩
      have hJ3 : JB w3 w.heap.size b start n q := (hb3.block _ HJ2.out.lt).trans HJ2.out
      have hD3 : IsDisk sx w3 S b k := (HD.out.below HB2.out).below hb3
      have hP3' : Pats w3 (fun i => ¬ S i) (some ⟨gl, 0, none⟩) (ints l) := hP3.more fun i _ hi hs => by have hi' : w2.heap.size ≤ i := hi; have := HD.out.lt hs; have := HB2.out.size; omega
      have Hb3 := Lib.hid (HB2.out.trans (hb3.mono HB2.out.size))
      have HJ3 := Lib.hid hJ3
      have HD3 := Lib.hid hD3
      have HP3 := Lib.hid hP3'
      have c3 := hJ3.cell 3
      clear hP3 hb3 hJ3 hD3 hP3' c2
      go_wp2_with fail
      refine (finish_any (start := start) HJ3.out HD3.out HnS.out HP3.out (fun t ht => ht) m m Hm.out (fun p hp => (takes_lt (Hp.out p hp)).1) (by have := Hsn.out; omega) (by have := Hun.out; omega) q hql).mono ?_
      rintro e w4 ⟨rfl, hT4⟩
      have hcc : cc = k.finish start q l := by rw [← Hcc.out, Dk.opened, if_neg (fun h => hm0 (by rw [← Hm.out, h]; rfl))]
      rw [← hcc] at hT4 ⊢
      have hTw : Turned sx S w w4 b cc.2 := Turned.trans (Kept.of_below Hb3.out) (fun t ht => .inl ht) hT4
      have hJ4 : JB w4 w.heap.size b start n q := (hT4.1.block _ HJ3.out.lt HnS.out).trans HJ3.out
      have Hfin : Hid (∃ S', IsDisk sx w4 S' b cc.2 ∧ (∀ i, S' i → S i ∨ w.heap.size ≤ i) ∧ ¬ S' w.heap.size) := by
        obtain ⟨_, S', hD', hS'⟩ := hT4
        refine ⟨S', hD', fun i hi => (hS' i hi).elim .inl fun h => .inr (Nat.le_trans Hb3.out.size h), fun h => ?_⟩
        rcases hS' _ h with h1 | h1
        · exact HnS.out h1
        · have := HJ3.out.lt; omega
      have HTw := Lib.hid hTw
      have HJ4 := Lib.hid hJ4
      clear hT4 hTw hJ4 hcc c3
      obtain ⟨x, k4⟩ := cc
      simp only at HTw Hfin ⊢
      by_cases hx : x = 0
      · subst hx
        go_wp2
        rw [jumps_ret]
        go_ret3
        refine ⟨_, rfl, .inl ⟨rfl, w.heap.size, rfl, Nat.le_refl _, HTw.out.1, ?_⟩⟩
        obtain ⟨S', hD', hS', hn'⟩ := Hfin.out
        exact ⟨S', hD', hS', HJ4.out, hn'⟩
      · have hbb : (x != 0) = true := by simp [hx]
        go_wp2
        go_step3
        exact .inr ⟨rfl, _, _, _, _, _, _, _, _, _, _, _, _, _, _, _, _, _, _, _, _, _, _, _, _, _, _, _, _, _, _, _, _, _, _, _, _, _, _, _, _, _, _, _, _, _, _, _, _, _, _, _, _, _, _, _, rfl, .inr ⟨hx, rfl, HTw.out⟩⟩
  · rintro a w1 ⟨e, u3, u4, u5, u6, u7, u8, u9, u10, u11, u13, u14, u15, u16, u17, u18, u19, u20, u21, u22, u23, u24, u25, u26, u27, u28, u29, u30, u31, u32, u33, u34, u35, u36, u37, u38, u39, u40, u41, u42, u43, u44, u45, u46, u47, u48, u49, u50, u51, u52, u53, u54, u55, u56, u57, rfl, hR⟩
    go_wp2
    rw [jumps_ret]
    go_ret3
    exact ⟨_, rfl, hR⟩
end
end Go.Proofs.Ytnkpmmijdkcdjaa
