/-
  InodeLays: whatever the inode, whether it is valid, and its bytes, are the document's.
-/
import Derived.Test.YtahpdnfnaimbnaaO
import Derived.Deep.RegionHeld3
namespace Go.Proofs.Ytahpdnfnaimbnaa
open Go.ChangeShapes Go.WideShapes Go.ChangeAt Go.RowKit Inode

/-- An inode that was boxed, and two slices of bytes as texts, in each later world. -/
theorem lim {w w2 u : World} {g k r : Nat} {l s p0 p1 p2 p3 p4 p5 p6 p7 p8 p9 : Int} {A1 A2 : Option Addr} {d1 d2 B1 B2 n1 n2 : Nat} {b1 b2 : List UInt8} (hk : Bk w2 g 24 [.int .u8 (k : Int), .int .u8 (r : Int), .int .i64 l, .int .i64 s, .int .i64 p0, .int .i64 p1, .int .i64 p2, .int .i64 p3, .int .i64 p4, .int .i64 p5, .int .i64 p6, .int .i64 p7, .int .i64 p8, .int .i64 p9]) (h1 : Rd w2 B1 A1 (bytesV b1)) (h2 : Rd w2 B2 A2 (bytesV b2)) (hb1 : B1 ≤ w2.heap.size) (hb2 : B2 ≤ w2.heap.size)
    (e1 : b1.length = n1) (e2 : b2.length = n2) (hw : Below w.heap.size w w2) (hb : Below w2.heap.size w2 u) :
    u.cell? ⟨g, 0, none⟩ = some (.int .u8 (k : Int)) ∧ u.cell? ⟨g, 1, none⟩ = some (.int .u8 (r : Int)) ∧ u.cell? ⟨g, 2, none⟩ = some (.int .i64 l) ∧ u.cell? ⟨g, 3, none⟩ = some (.int .i64 s) ∧ u.cell? ⟨g, 4, none⟩ = some (.int .i64 p0) ∧ u.cell? ⟨g, 5, none⟩ = some (.int .i64 p1) ∧ u.cell? ⟨g, 6, none⟩ = some (.int .i64 p2) ∧ u.cell? ⟨g, 7, none⟩ = some (.int .i64 p3) ∧ u.cell? ⟨g, 8, none⟩ = some (.int .i64 p4) ∧ u.cell? ⟨g, 9, none⟩ = some (.int .i64 p5) ∧ u.cell? ⟨g, 10, none⟩ = some (.int .i64 p6) ∧ u.cell? ⟨g, 11, none⟩ = some (.int .i64 p7) ∧ u.cell? ⟨g, 12, none⟩ = some (.int .i64 p8) ∧ u.cell? ⟨g, 13, none⟩ = some (.int .i64 p9) ∧ (convert 25 9 (.slice A1 n1 d1)).run Try.prog u = .ok (.string ⟨b1.toArray⟩) u ∧ (convert 25 9 (.slice A2 n2 d2)).run Try.prog u = .ok (.string ⟨b2.toArray⟩) u ∧ Below w.heap.size w u := by
  have hk' := hk.below hb hk.lt
  exact ⟨hk'.cell 0, hk'.cell 1, hk'.cell 2, hk'.cell 3, hk'.cell 4, hk'.cell 5, hk'.cell 6, hk'.cell 7, hk'.cell 8, hk'.cell 9, hk'.cell 10, hk'.cell 11, hk'.cell 12, hk'.cell 13, str_of e1 ((h1.more hb1).below hb), str_of e2 ((h2.more hb2).below hb), hw.trans (hb.mono hw.size)⟩

set_option maxHeartbeats 1600000 in
set_option maxRecDepth 100000 in
theorem lays_ten (k r : Nat) (l s p0 p1 p2 p3 p4 p5 p6 p7 p8 p9 : Int) (w : World) (hk : k < 256) (hr : r < 256) :
    Calls Try.prog 3 #[.agg #[.int .u8 (k : Int), .int .u8 (r : Int), .int .i64 l, .int .i64 s, .int .i64 p0, .int .i64 p1, .int .i64 p2, .int .i64 p3, .int .i64 p4, .int .i64 p5, .int .i64 p6, .int .i64 p7, .int .i64 p8, .int .i64 p9]] w fun e w' => e = .returned (.bool true) ∧ Below w.heap.size w w' := by
  obtain ⟨bs, er, hL⟩ : ∃ bs er, layI (⟨k, r, l, s, [p0, p1, p2, p3, p4, p5, p6, p7, p8, p9]⟩ : Ino) = (bs, er) := ⟨_, _, rfl⟩
  have HL : Hid (∀ W : World, Calls Try.prog 10 #[.agg #[.int .u8 (k : Int), .int .u8 (r : Int), .int .i64 l, .int .i64 s, .int .i64 p0, .int .i64 p1, .int .i64 p2, .int .i64 p3, .int .i64 p4, .int .i64 p5, .int .i64 p6, .int .i64 p7, .int .i64 p8, .int .i64 p9]] W fun e w' => HandsB W bs er e w') := fun W => by
    have := lay_ino (⟨k, r, l, s, [p0, p1, p2, p3, p4, p5, p6, p7, p8, p9]⟩ : Ino) ⟨rfl, hk, hr⟩ W
    rwa [hL] at this
  have HM : Hid (∀ W : World, Calls Try.prog 11 #[.agg #[.int .u8 (k : Int), .int .u8 (r : Int), .int .i64 l, .int .i64 s, .int .i64 p0, .int .i64 p1, .int .i64 p2, .int .i64 p3, .int .i64 p4, .int .i64 p5, .int .i64 p6, .int .i64 p7, .int .i64 p8, .int .i64 p9]] W fun e w' => HandsB W bs er e w') := fun W => by
    have := rlay_ino (⟨k, r, l, s, [p0, p1, p2, p3, p4, p5, p6, p7, p8, p9]⟩ : Ino) ⟨rfl, hk, hr⟩ W
    rwa [hL] at this
  have HR : Hid (∀ W : World, Calls Try.prog 13 #[.agg #[.int .u8 (k : Int), .int .u8 (r : Int), .int .i64 l, .int .i64 s, .int .i64 p0, .int .i64 p1, .int .i64 p2, .int .i64 p3, .int .i64 p4, .int .i64 p5, .int .i64 p6, .int .i64 p7, .int .i64 p8, .int .i64 p9]] W fun e w' => e = .returned (.bool (rightB (⟨k, r, l, s, [p0, p1, p2, p3, p4, p5, p6, p7, p8, p9]⟩ : Ino))) ∧ Below W.heap.size W w') := fun W => right_ten k r l s p0 p1 p2 p3 p4 p5 p6 p7 p8 p9 W hk hr
  have HS : Hid (∀ W : World, Calls Try.prog 14 #[.agg #[.int .u8 (k : Int), .int .u8 (r : Int), .int .i64 l, .int .i64 s, .int .i64 p0, .int .i64 p1, .int .i64 p2, .int .i64 p3, .int .i64 p4, .int .i64 p5, .int .i64 p6, .int .i64 p7, .int .i64 p8, .int .i64 p9]] W fun e w' => e = .returned (.bool (rightB (⟨k, r, l, s, [p0, p1, p2, p3, p4, p5, p6, p7, p8, p9]⟩ : Ino))) ∧ Below W.heap.size W w') := fun W => rright_ten k r l s p0 p1 p2 p3 p4 p5 p6 p7 p8 p9 W hr
  obtain ⟨n, hn⟩ : ∃ n, bs.length = n := ⟨_, rfl⟩
  have Hn := Lib.hid hn
  generalize rightB (⟨k, r, l, s, [p0, p1, p2, p3, p4, p5, p6, p7, p8, p9]⟩ : Ino) = rb at HR HS
  clear hL hk hr hn
  go_enter Try.func3, Try.ntmps3
  go_wp2_with (first
    | (go_at_call 10; (with_reducible refine (HL.out _).mono ?_); rintro e w1 hh; obtain ⟨A1, d1, he, -, hr1, hb1⟩ := hh.got Hn.out; obtain rfl := he; obtain ⟨hk1, hb1', hs1⟩ := kept_ino hb1; obtain ⟨a0, a1, a2, a3, a4, a5, a6, a7, a8, a9, a10, a11, a12, a13⟩ := ino_cells hk1; have HK1 := Lib.hid hk1; have HB1 := Lib.hid hb1'; have HR1 := Lib.hid hr1; clear hh hb1 hb1' hk1 hr1)
    | (go_at_call 11; (with_reducible refine (HM.out _).mono ?_); rintro e w2 hh; obtain ⟨A2, d2, he, -, hr2, hb2⟩ := hh.got Hn.out; obtain rfl := he; have HK2 := Lib.hid (HK1.out.below hb2 HK1.out.lt); have HB2 := Lib.hid (HB1.out.trans (hb2.mono HB1.out.size)); have HR12 := Lib.hid ((HR1.out.below hb2).more hb2.size); have HR2 := Lib.hid hr2; clear hh hb2 hr2 a0 a1 a2 a3 a4 a5 a6 a7 a8 a9 a10 a11 a12 a13))
  have HD := Lib.hid (below_drew (Below.refl w2.heap.size w2))
  go_region_held3 (fun u => u.cell? ⟨w.heap.size, 0, none⟩ = some (.int .u8 (k : Int)) ∧ u.cell? ⟨w.heap.size, 1, none⟩ = some (.int .u8 (r : Int)) ∧ u.cell? ⟨w.heap.size, 2, none⟩ = some (.int .i64 l) ∧ u.cell? ⟨w.heap.size, 3, none⟩ = some (.int .i64 s) ∧ u.cell? ⟨w.heap.size, 4, none⟩ = some (.int .i64 p0) ∧ u.cell? ⟨w.heap.size, 5, none⟩ = some (.int .i64 p1) ∧ u.cell? ⟨w.heap.size, 6, none⟩ = some (.int .i64 p2) ∧ u.cell? ⟨w.heap.size, 7, none⟩ = some (.int .i64 p3) ∧ u.cell? ⟨w.heap.size, 8, none⟩ = some (.int .i64 p4) ∧ u.cell? ⟨w.heap.size, 9, none⟩ = some (.int .i64 p5) ∧ u.cell? ⟨w.heap.size, 10, none⟩ = some (.int .i64 p6) ∧ u.cell? ⟨w.heap.size, 11, none⟩ = some (.int .i64 p7) ∧ u.cell? ⟨w.heap.size, 12, none⟩ = some (.int .i64 p8) ∧ u.cell? ⟨w.heap.size, 13, none⟩ = some (.int .i64 p9) ∧ (convert 25 9 (.slice A1 n d1)).run Try.prog u = .ok (.string ⟨bs.toArray⟩) u ∧ (convert 25 9 (.slice A2 n d2)).run Try.prog u = .ok (.string ⟨bs.toArray⟩) u ∧ Below w.heap.size w u)
    (first | exact lim HK2.out HR12.out HR2.out (Nat.le_refl _) (Nat.le_refl _) Hn.out Hn.out HB2.out HD.out | exact lim HK2.out HR12.out HR2.out (Nat.le_refl _) (Nat.le_refl _) Hn.out Hn.out HB2.out HB5.out | exact lim HK2.out HR12.out HR2.out (Nat.le_refl _) (Nat.le_refl _) Hn.out Hn.out HB2.out HB4.out | exact lim HK2.out HR12.out HR2.out (Nat.le_refl _) (Nat.le_refl _) Hn.out Hn.out HB2.out HB3.out)
    (first
      | (go_at_call 12; refine (shown_any _).mono ?_; rintro e w3 ⟨he, hb3⟩; obtain rfl := he; have HB3 := Lib.hid (HD.out.trans (hb3.mono HD.out.size)); clear hb3)
      | (go_at_call 13; refine (HR.out _).mono ?_; rintro e w4 ⟨he, hb4⟩; obtain rfl := he; have HB4 := Lib.hid (HB3.out.trans (hb4.mono HB3.out.size)); clear hb4)
      | (go_at_call 14; refine (HS.out _).mono ?_; rintro e w5 ⟨he, hb5⟩; obtain rfl := he; have HB5 := Lib.hid (HB4.out.trans (hb5.mono HB4.out.size)); clear hb5))
  go_wp2
  go_ret
  exact ⟨rfl, HB2.out.trans (HB5.out.mono HB2.out.size)⟩
theorem lays_walk (n : Ino) (ho : Oki n) (w : World) : Calls Try.prog 3 #[inoV n] w fun e w' => e = .returned (.bool true) ∧ Below w.heap.size w w' := by
  obtain ⟨k, r, l, s, p⟩ := n
  obtain ⟨p0, p1, p2, p3, p4, p5, p6, p7, p8, p9, hp⟩ := ten_of ho.len
  simp only at hp
  subst hp
  exact lays_ten k r l s p0 p1 p2 p3 p4 p5 p6 p7 p8 p9 w ho.k ho.r

theorem lays_contract (H : Type) (enc : TypeId × Value → H) (W : World) (base : Nat) (args : Array Value) (ds gs : List (DataW H)) (before : List MemPlace)
    (hval : ∀ (j : Nat) t v, Try.f3.params[j]? = some t → args[j]? = some v → Value.okWide Try.prog W .any base t v)
    (hW : DataW.Whole enc Try.prog Try.f3.params.toList Rows.inodeLaysSpec.vars false W args.toList ds gs before) :
    Calls Try.prog 3 args W fun e W' => ∃ v, e = .returned v ∧ Rows.inodeLaysSpec.post enc Try.prog Try.f3 false true false false W args v W' := by
  have hW' := hW
  have hlt : ∀ x ∈ before, x.block < W.heap.size := fun x hx => hW.lt x hx
  obtain ⟨p, q, hA0, hV, rfl, _, _⟩ := hW
  have hA : DataW.TrodAll enc Try.prog W 0 (fun _ => true) true Try.f3.params.toList args.toList ds p := hA0
  rw [Try.params3] at hA hval
  obtain ⟨v0, vs0, d0, ds0, p0, q0, hargs, rfl, rfl, h0, r0⟩ := trodAll_cons hA
  obtain ⟨rfl, rfl, rfl⟩ := trodAll_nil r0
  obtain rfl : args = #[v0] := by cases args; simp_all
  obtain ⟨rfl, rfl⟩ := trodVars_none hV
  clear hA0
  obtain ⟨m0, rfl, ho0⟩ := open_ino (hval 0 24 v0 rfl rfl) h0
  refine (lays_walk m0 ho0 W).mono fun e W' ⟨he, hb⟩ => ?_
  subst he
  exact ⟨_, rfl, law_post laid (by kernel_rfl) Try.underlying4 (by rw [Try.params3]; decide +kernel) rfl hW' ⟨rfl, rfl, rfl⟩ hb⟩

set_option maxRecDepth 100000 in
theorem lays_lifted (os : Os) (started : os.Started) (H : Type) (enc : TypeId × Value → H) :
    ReturnsInHanded {} Try.checked os 3 .any (Rows.inodeLaysSpec.pre6 enc Try.prog Try.f3 Rows.inodeLaysRow.domain false) (Rows.inodeLaysSpec.post enc Try.prog Try.f3 false true false false) := by
  refine returnsInHanded_of_change (C := Try.checked) own started (by kernel_rfl) Try.func3
    (ChangeSpec.witness6 (enc := enc) (C := Try.checked) false ⟨#[], #[.agg #[.int .u8 0, .int .u8 0, .int .i64 0, .int .i64 0, .int .i64 0, .int .i64 0, .int .i64 0, .int .i64 0, .int .i64 0, .int .i64 0, .int .i64 0, .int .i64 0, .int .i64 0, .int .i64 0]], []⟩ 8 (by kernel_rfl) (by kernel_rfl) (by kernel_rfl) (by kernel_rfl)) ?_
  intro W base args ds gs before hval hW _ _
  exact lays_contract H enc W base args ds gs before hval hW

/-- InodeLays is true for every input. -/
theorem lays_holds : Rows.InodeLaysSaid :=
  OpenClaim.holds_of_wide 3 Try.f3 rfl rfl rfl rfl rfl rfl rfl ⟨rfl, rfl, rfl, rfl, rfl⟩ rfl rfl rfl rfl rfl (by kernel_rfl) Try.func3 (by kernel_rfl)
    (of_decide_eq_true (by kernel_rfl)) (by unfold Func.isWrapper; first | (rw [if_pos (by decide +kernel)]; kernel_rfl) | (rw [if_neg (by decide +kernel)]; exact ⟨rfl, rfl⟩))
    (fun os started H enc _ => lays_lifted os started H enc)
end Go.Proofs.Ytahpdnfnaimbnaa
