/-
  A nil volume has nothing, and a nil disk none: for every act.
  No condition is set.
-/
import Derived.Test.YtcjkbmmjpkghlaaGreatQVolF
import Derived.Test.YtcjkbmmjpkghlaaGreatQVolO
namespace Go.Proofs.YtcjkbmmjpkghlaaGreat
open Go.RowKit Go.ChangeShapes Go.WideShapes Go.ChangeAt Go.Deep Go.Joins Meta

namespace Vol
theorem act_cells {w : World} {g : Nat} {e : TypeId} {a0 a1 a2 a3 a4 a5 a6 a7 a8 a9 a10 a11 a12 a13 a14 a15 a16 a17 a18 a19 : Value} (h : Bk w g e [a0, a1, a2, a3, a4, a5, a6, a7, a8, a9, a10, a11, a12, a13, a14, a15, a16, a17, a18, a19]) : w.cell? ⟨g, 0, none⟩ = some a0 ∧ w.cell? ⟨g, 1, none⟩ = some a1 ∧ w.cell? ⟨g, 2, none⟩ = some a2 ∧ w.cell? ⟨g, 3, none⟩ = some a3 ∧ w.cell? ⟨g, 4, none⟩ = some a4 ∧ w.cell? ⟨g, 5, none⟩ = some a5 ∧ w.cell? ⟨g, 6, none⟩ = some a6 ∧ w.cell? ⟨g, 7, none⟩ = some a7 ∧ w.cell? ⟨g, 8, none⟩ = some a8 ∧ w.cell? ⟨g, 9, none⟩ = some a9 ∧ w.cell? ⟨g, 10, none⟩ = some a10 ∧ w.cell? ⟨g, 11, none⟩ = some a11 ∧ w.cell? ⟨g, 12, none⟩ = some a12 ∧ w.cell? ⟨g, 13, none⟩ = some a13 ∧ w.cell? ⟨g, 14, none⟩ = some a14 ∧ w.cell? ⟨g, 15, none⟩ = some a15 ∧ w.cell? ⟨g, 16, none⟩ = some a16 ∧ w.cell? ⟨g, 17, none⟩ = some a17 ∧ w.cell? ⟨g, 18, none⟩ = some a18 ∧ w.cell? ⟨g, 19, none⟩ = some a19 :=
  ⟨h.cell 0, h.cell 1, h.cell 2, h.cell 3, h.cell 4, h.cell 5, h.cell 6, h.cell 7, h.cell 8, h.cell 9, h.cell 10, h.cell 11, h.cell 12, h.cell 13, h.cell 14, h.cell 15, h.cell 16, h.cell 17, h.cell 18, h.cell 19⟩
set_option maxRecDepth 100000 in
set_option maxHeartbeats 25600000 in
theorem nilw (a : VA) {W0 : World} (ho : Oka W0 a) (w : World) : Calls Tryz.prog 6 #[.agg (actC a).toArray] w fun e w' => e = .returned (.bool true) ∧ Below w.heap.size w w' := by
  obtain ⟨kd, x1, lb, x3, A4, cap4, bs, mi, th⟩ := a
  have hmo := ho.m
  clear ho
  obtain ⟨ki, ri, li, si, pi⟩ := mi
  obtain ⟨p0, p1, p2, p3, p4, p5, p6, p7, p8, p9, hp⟩ := Inode.ten_of hmo.len
  simp only at hp
  subst hp
  clear hmo
  have HX := Lib.hid (Bk.new w 43 [.int .u8 (kd : Int), .int .i64 x1, .int .u16 (lb : Int), .int .u8 (x3 : Int), .slice A4 bs.length cap4, .int .u8 (ki : Int), .int .u8 (ri : Int), .int .i64 li, .int .i64 si, .int .i64 p0, .int .i64 p1, .int .i64 p2, .int .i64 p3, .int .i64 p4, .int .i64 p5, .int .i64 p6, .int .i64 p7, .int .i64 p8, .int .i64 p9, .int .u64 (th : Int)])
  have HB := Lib.hid (al_below w (.cells #[.int .u8 (kd : Int), .int .i64 x1, .int .u16 (lb : Int), .int .u8 (x3 : Int), .slice A4 bs.length cap4, .int .u8 (ki : Int), .int .u8 (ri : Int), .int .i64 li, .int .i64 si, .int .i64 p0, .int .i64 p1, .int .i64 p2, .int .i64 p3, .int .i64 p4, .int .i64 p5, .int .i64 p6, .int .i64 p7, .int .i64 p8, .int .i64 p9, .int .u64 (th : Int)] 43))
  show Calls Tryz.prog 6 #[.agg #[.int .u8 (kd : Int), .int .i64 x1, .int .u16 (lb : Int), .int .u8 (x3 : Int), .slice A4 bs.length cap4, .int .u8 (ki : Int), .int .u8 (ri : Int), .int .i64 li, .int .i64 si, .int .i64 p0, .int .i64 p1, .int .i64 p2, .int .i64 p3, .int .i64 p4, .int .i64 p5, .int .i64 p6, .int .i64 p7, .int .i64 p8, .int .i64 p9, .int .u64 (th : Int)]] w _
  generalize bs.length = bn at *
  go_enter Tryz.func6, Tryz.ntmps6
  go_upto_region 1 with fail
  generalize w.alloc (.cells #[.int .u8 (kd : Int), .int .i64 x1, .int .u16 (lb : Int), .int .u8 (x3 : Int), .slice A4 bn cap4, .int .u8 (ki : Int), .int .u8 (ri : Int), .int .i64 li, .int .i64 si, .int .i64 p0, .int .i64 p1, .int .i64 p2, .int .i64 p3, .int .i64 p4, .int .i64 p5, .int .i64 p6, .int .i64 p7, .int .i64 p8, .int .i64 p9, .int .u64 (th : Int)] 43) = U at *
  obtain ⟨z0, z1, z2, z3, z4, z5, z6, z7, z8, z9, z10, z11, z12, z13, z14, z15, z16, z17, z18, z19⟩ := act_cells HX.out
  go_upto_region 6 with (first | (go_at_call 9; (with_reducible refine (shown_any _).mono ?_); rintro e w2 ⟨he, hb⟩; obtain rfl := he; replace HX := Lib.hid (HX.out.below hb HX.out.lt); replace HB := Lib.hid (HB.out.trans (hb.mono HB.out.size)); clear hb z0 z1 z2 z3 z4 z5 z6 z7 z8 z9 z10 z11 z12 z13 z14 z15 z16 z17 z18 z19; obtain ⟨z0, z1, z2, z3, z4, z5, z6, z7, z8, z9, z10, z11, z12, z13, z14, z15, z16, z17, z18, z19⟩ := act_cells HX.out) | (go_at_call 33; (with_reducible refine (nil_alloc _ _).mono ?_); rintro e w2 ⟨he, hb⟩; obtain rfl := he; replace HX := Lib.hid (HX.out.below hb HX.out.lt); replace HB := Lib.hid (HB.out.trans (hb.mono HB.out.size)); clear hb z0 z1 z2 z3 z4 z5 z6 z7 z8 z9 z10 z11 z12 z13 z14 z15 z16 z17 z18 z19; obtain ⟨z0, z1, z2, z3, z4, z5, z6, z7, z8, z9, z10, z11, z12, z13, z14, z15, z16, z17, z18, z19⟩ := act_cells HX.out) | (go_at_call 30; (with_reducible refine (nil_read _ _).mono ?_); rintro e w2 ⟨he, hb⟩; obtain rfl := he; replace HX := Lib.hid (HX.out.below hb HX.out.lt); replace HB := Lib.hid (HB.out.trans (hb.mono HB.out.size)); clear hb z0 z1 z2 z3 z4 z5 z6 z7 z8 z9 z10 z11 z12 z13 z14 z15 z16 z17 z18 z19; obtain ⟨z0, z1, z2, z3, z4, z5, z6, z7, z8, z9, z10, z11, z12, z13, z14, z15, z16, z17, z18, z19⟩ := act_cells HX.out) | (go_at_call 34; (with_reducible refine (nil_make _ _ _).mono ?_); rintro e w2 ⟨he, hb⟩; obtain rfl := he; replace HX := Lib.hid (HX.out.below hb HX.out.lt); replace HB := Lib.hid (HB.out.trans (hb.mono HB.out.size)); clear hb z0 z1 z2 z3 z4 z5 z6 z7 z8 z9 z10 z11 z12 z13 z14 z15 z16 z17 z18 z19; obtain ⟨z0, z1, z2, z3, z4, z5, z6, z7, z8, z9, z10, z11, z12, z13, z14, z15, z16, z17, z18, z19⟩ := act_cells HX.out))
  go_upto_region 7 with (go_at_call 22; (with_reducible refine (nil_inode _ _).mono ?_); rintro e w3 ⟨he, hb⟩; obtain rfl := he; replace HX := Lib.hid (HX.out.below hb HX.out.lt); replace HB := Lib.hid (HB.out.trans (hb.mono HB.out.size)); clear hb z0 z1 z2 z3 z4 z5 z6 z7 z8 z9 z10 z11 z12 z13 z14 z15 z16 z17 z18 z19; obtain ⟨z0, z1, z2, z3, z4, z5, z6, z7, z8, z9, z10, z11, z12, z13, z14, z15, z16, z17, z18, z19⟩ := act_cells HX.out)
  have hal := al_below w3 (.cells #[.int .u8 0, .int .u8 0, .int .i64 0, .int .i64 0, .int .i64 0, .int .i64 0, .int .i64 0, .int .i64 0, .int .i64 0, .int .i64 0, .int .i64 0, .int .i64 0, .int .i64 0, .int .i64 0] 40)
  replace HX := Lib.hid (HX.out.below hal HX.out.lt)
  replace HB := Lib.hid (HB.out.trans (hal.mono HB.out.size))
  clear hal z0 z1 z2 z3 z4 z5 z6 z7 z8 z9 z10 z11 z12 z13 z14 z15 z16 z17 z18 z19
  generalize w3.alloc (.cells #[.int .u8 0, .int .u8 0, .int .i64 0, .int .i64 0, .int .i64 0, .int .i64 0, .int .i64 0, .int .i64 0, .int .i64 0, .int .i64 0, .int .i64 0, .int .i64 0, .int .i64 0, .int .i64 0] 40) = U3 at *
  obtain ⟨z0, z1, z2, z3, z4, z5, z6, z7, z8, z9, z10, z11, z12, z13, z14, z15, z16, z17, z18, z19⟩ := act_cells HX.out
  go_upto_region 9 with (go_at_call 20; (with_reducible refine (nil_mount _).mono ?_); rintro e w2 ⟨he, hb⟩; obtain rfl := he; replace HX := Lib.hid (HX.out.below hb HX.out.lt); replace HB := Lib.hid (HB.out.trans (hb.mono HB.out.size)); clear hb z0 z1 z2 z3 z4 z5 z6 z7 z8 z9 z10 z11 z12 z13 z14 z15 z16 z17 z18 z19; obtain ⟨z0, z1, z2, z3, z4, z5, z6, z7, z8, z9, z10, z11, z12, z13, z14, z15, z16, z17, z18, z19⟩ := act_cells HX.out)
  have hfl : ∀ u : World, (Instr.field 60 (.agg #[.slice none 0 0, .slice none 0 0, .slice none 0 0, .slice none 0 0]) 0).run Tryz.prog u = .ok (.slice none 0 0) u := fun u => by kernel_rfl
  go_wp2_with (first | (go_at_call 18; (with_reducible refine (nil_abort _).mono ?_); rintro e w2 ⟨he, hb⟩; obtain rfl := he; replace HX := Lib.hid (HX.out.below hb HX.out.lt); replace HB := Lib.hid (HB.out.trans (hb.mono HB.out.size)); clear hb z0 z1 z2 z3 z4 z5 z6 z7 z8 z9 z10 z11 z12 z13 z14 z15 z16 z17 z18 z19; obtain ⟨z0, z1, z2, z3, z4, z5, z6, z7, z8, z9, z10, z11, z12, z13, z14, z15, z16, z17, z18, z19⟩ := act_cells HX.out) | (go_at_call 17; (with_reducible refine (nil_begin _).mono ?_); rintro e w2 ⟨he, hb⟩; obtain rfl := he; replace HX := Lib.hid (HX.out.below hb HX.out.lt); replace HB := Lib.hid (HB.out.trans (hb.mono HB.out.size)); clear hb z0 z1 z2 z3 z4 z5 z6 z7 z8 z9 z10 z11 z12 z13 z14 z15 z16 z17 z18 z19; obtain ⟨z0, z1, z2, z3, z4, z5, z6, z7, z8, z9, z10, z11, z12, z13, z14, z15, z16, z17, z18, z19⟩ := act_cells HX.out) | (go_at_call 19; (with_reducible refine (nil_sync _).mono ?_); rintro e w2 ⟨he, hb⟩; obtain rfl := he; replace HX := Lib.hid (HX.out.below hb HX.out.lt); replace HB := Lib.hid (HB.out.trans (hb.mono HB.out.size)); clear hb z0 z1 z2 z3 z4 z5 z6 z7 z8 z9 z10 z11 z12 z13 z14 z15 z16 z17 z18 z19; obtain ⟨z0, z1, z2, z3, z4, z5, z6, z7, z8, z9, z10, z11, z12, z13, z14, z15, z16, z17, z18, z19⟩ := act_cells HX.out) | (go_at_call 35; (with_reducible refine (nil_geo _).mono ?_); rintro e w2 ⟨he, hb⟩; obtain rfl := he; replace HX := Lib.hid (HX.out.below hb HX.out.lt); replace HB := Lib.hid (HB.out.trans (hb.mono HB.out.size)); clear hb z0 z1 z2 z3 z4 z5 z6 z7 z8 z9 z10 z11 z12 z13 z14 z15 z16 z17 z18 z19; obtain ⟨z0, z1, z2, z3, z4, z5, z6, z7, z8, z9, z10, z11, z12, z13, z14, z15, z16, z17, z18, z19⟩ := act_cells HX.out) | (go_at_call 29; (with_reducible refine (nil_meta _).mono ?_); rintro e w2 ⟨he, hb⟩; obtain rfl := he; replace HX := Lib.hid (HX.out.below hb HX.out.lt); replace HB := Lib.hid (HB.out.trans (hb.mono HB.out.size)); clear hb z0 z1 z2 z3 z4 z5 z6 z7 z8 z9 z10 z11 z12 z13 z14 z15 z16 z17 z18 z19; obtain ⟨z0, z1, z2, z3, z4, z5, z6, z7, z8, z9, z10, z11, z12, z13, z14, z15, z16, z17, z18, z19⟩ := act_cells HX.out) | (go_at_call 36; (with_reducible refine (nil_free _ _).mono ?_); rintro e w2 ⟨he, hb⟩; obtain rfl := he; replace HX := Lib.hid (HX.out.below hb HX.out.lt); replace HB := Lib.hid (HB.out.trans (hb.mono HB.out.size)); clear hb z0 z1 z2 z3 z4 z5 z6 z7 z8 z9 z10 z11 z12 z13 z14 z15 z16 z17 z18 z19; obtain ⟨z0, z1, z2, z3, z4, z5, z6, z7, z8, z9, z10, z11, z12, z13, z14, z15, z16, z17, z18, z19⟩ := act_cells HX.out) | (go_at_call 37; (with_reducible refine (nil_write _ _ _ _ _).mono ?_); rintro e w2 ⟨he, hb⟩; obtain rfl := he; replace HX := Lib.hid (HX.out.below hb HX.out.lt); replace HB := Lib.hid (HB.out.trans (hb.mono HB.out.size)); clear hb z0 z1 z2 z3 z4 z5 z6 z7 z8 z9 z10 z11 z12 z13 z14 z15 z16 z17 z18 z19; obtain ⟨z0, z1, z2, z3, z4, z5, z6, z7, z8, z9, z10, z11, z12, z13, z14, z15, z16, z17, z18, z19⟩ := act_cells HX.out) | (go_at_call 38; (with_reducible refine (nil_unmake _ _).mono ?_); rintro e w2 ⟨he, hb⟩; obtain rfl := he; replace HX := Lib.hid (HX.out.below hb HX.out.lt); replace HB := Lib.hid (HB.out.trans (hb.mono HB.out.size)); clear hb z0 z1 z2 z3 z4 z5 z6 z7 z8 z9 z10 z11 z12 z13 z14 z15 z16 z17 z18 z19; obtain ⟨z0, z1, z2, z3, z4, z5, z6, z7, z8, z9, z10, z11, z12, z13, z14, z15, z16, z17, z18, z19⟩ := act_cells HX.out) | (go_at_call 39; (with_reducible refine (nil_set _ [.int .u8 (ki : Int), .int .u8 (ri : Int), .int .i64 li, .int .i64 si, .int .i64 p0, .int .i64 p1, .int .i64 p2, .int .i64 p3, .int .i64 p4, .int .i64 p5, .int .i64 p6, .int .i64 p7, .int .i64 p8, .int .i64 p9] _).mono ?_); rintro e w2 ⟨he, hb⟩; obtain rfl := he; replace HX := Lib.hid (HX.out.below hb HX.out.lt); replace HB := Lib.hid (HB.out.trans (hb.mono HB.out.size)); clear hb z0 z1 z2 z3 z4 z5 z6 z7 z8 z9 z10 z11 z12 z13 z14 z15 z16 z17 z18 z19; obtain ⟨z0, z1, z2, z3, z4, z5, z6, z7, z8, z9, z10, z11, z12, z13, z14, z15, z16, z17, z18, z19⟩ := act_cells HX.out) | (go_at_call 40; (with_reducible refine (nil_dirty _).mono ?_); rintro e w2 ⟨he, hb⟩; obtain rfl := he; replace HX := Lib.hid (HX.out.below hb HX.out.lt); replace HB := Lib.hid (HB.out.trans (hb.mono HB.out.size)); clear hb z0 z1 z2 z3 z4 z5 z6 z7 z8 z9 z10 z11 z12 z13 z14 z15 z16 z17 z18 z19; obtain ⟨z0, z1, z2, z3, z4, z5, z6, z7, z8, z9, z10, z11, z12, z13, z14, z15, z16, z17, z18, z19⟩ := act_cells HX.out) | (go_at_call 11; (with_reducible refine (parted_any _).mono ?_); rintro e w2 ⟨he, hb⟩; obtain rfl := he; replace HX := Lib.hid (HX.out.below hb HX.out.lt); replace HB := Lib.hid (HB.out.trans (hb.mono HB.out.size)); clear hb z0 z1 z2 z3 z4 z5 z6 z7 z8 z9 z10 z11 z12 z13 z14 z15 z16 z17 z18 z19; obtain ⟨z0, z1, z2, z3, z4, z5, z6, z7, z8, z9, z10, z11, z12, z13, z14, z15, z16, z17, z18, z19⟩ := act_cells HX.out) | (go_at_call 41; (with_reducible refine (nil_format _ _ _ _ _).mono ?_); rintro e w2 ⟨he, hb⟩; obtain rfl := he; replace HX := Lib.hid (HX.out.below hb HX.out.lt); replace HB := Lib.hid (HB.out.trans (hb.mono HB.out.size)); clear hb z0 z1 z2 z3 z4 z5 z6 z7 z8 z9 z10 z11 z12 z13 z14 z15 z16 z17 z18 z19; obtain ⟨z0, z1, z2, z3, z4, z5, z6, z7, z8, z9, z10, z11, z12, z13, z14, z15, z16, z17, z18, z19⟩ := act_cells HX.out))
  go_ret
  exact ⟨rfl, HB.out⟩
end Vol

set_option maxRecDepth 100000 in
theorem nil_contract (H : Type) (enc : TypeId × Value → H) (W : World) (base : Nat) (args : Array Value) (ds gs : List (DataW H)) (before : List MemPlace)
    (hval : ∀ (j : Nat) t v, Tryz.f6.params[j]? = some t → args[j]? = some v → Value.okWide Tryz.prog W .any base t v)
    (hW : DataW.Whole enc Tryz.prog Tryz.f6.params.toList Rows.volumeNilSpec.vars false W args.toList ds gs before) :
    Calls Tryz.prog 6 args W fun e W' => ∃ v, e = .returned v ∧ Rows.volumeNilSpec.post enc Tryz.prog Tryz.f6 false true false false W args v W' := by
  have hW' := hW
  have hlt : ∀ x ∈ before, x.block < W.heap.size := fun x hx => hW.lt x hx
  obtain ⟨p, q, hA0, hV, rfl, _, _⟩ := hW
  have hA : DataW.TrodAll enc Tryz.prog W 0 (fun _ => true) true Tryz.f6.params.toList args.toList ds p := hA0
  rw [Tryz.params6] at hA hval
  obtain ⟨v0, vs0, d0, ds0, p0, q0, hargs, rfl, rfl, h0, r0⟩ := trodAll_cons hA
  obtain ⟨rfl, rfl, rfl⟩ := trodAll_nil r0
  obtain rfl : args = #[v0] := by cases args; simp_all
  obtain ⟨rfl, rfl⟩ := trodVars_none hV
  clear hA0
  obtain ⟨x0, rfl, ho0⟩ := Vol.open_act (hval 0 43 v0 rfl rfl) h0 (fun x hx => hlt x (by simp [hx]))
  refine (Vol.nilw x0 ho0 W).mono fun e W' ⟨he, hb⟩ => ?_
  subst he
  exact ⟨_, rfl, law_post laid (by kernel_rfl) Tryz.underlying4 (by rw [Tryz.params6]; decide +kernel) rfl hW' ⟨rfl, rfl, rfl⟩ hb⟩

set_option maxRecDepth 100000 in
theorem nil_lifted (os : Os) (started : os.Started) (H : Type) (enc : TypeId × Value → H) :
    ReturnsInHanded {} Tryz.checked os 6 .any (Rows.volumeNilSpec.pre6 enc Tryz.prog Tryz.f6 Rows.volumeNilRow.domain false) (Rows.volumeNilSpec.post enc Tryz.prog Tryz.f6 false true false false) := by
  refine returnsInHanded_of_change (C := Tryz.checked) own started (by kernel_rfl) Tryz.func6
    (ChangeSpec.witness6 (enc := enc) (C := Tryz.checked) false ⟨#[], #[.agg #[.int .u8 0, .int .i64 0, .int .u16 0, .int .u8 0, .slice none 0 0, .int .u8 0, .int .u8 0, .int .i64 0, .int .i64 0, .int .i64 0, .int .i64 0, .int .i64 0, .int .i64 0, .int .i64 0, .int .i64 0, .int .i64 0, .int .i64 0, .int .i64 0, .int .i64 0, .int .u64 0]], []⟩ 8 (by kernel_rfl) (by kernel_rfl) (by kernel_rfl) (by kernel_rfl)) ?_
  intro W base args ds gs before hval hW _ _
  exact nil_contract H enc W base args ds gs before hval hW

/-- VolumeNil is true for every input. -/
theorem nil_holds : Rows.VolumeNilSaid :=
  OpenClaim.holds_of_wide 6 Tryz.f6 rfl rfl rfl rfl rfl rfl rfl ⟨rfl, rfl, rfl, rfl, rfl⟩ rfl rfl rfl rfl rfl (by kernel_rfl) Tryz.func6 (by kernel_rfl)
    (of_decide_eq_true (by kernel_rfl)) (by unfold Func.isWrapper; first | (rw [if_pos (by decide +kernel)]; kernel_rfl) | (rw [if_neg (by decide +kernel)]; exact ⟨rfl, rfl⟩))
    (fun os started H enc _ => nil_lifted os started H enc)
end Go.Proofs.YtcjkbmmjpkghlaaGreat
