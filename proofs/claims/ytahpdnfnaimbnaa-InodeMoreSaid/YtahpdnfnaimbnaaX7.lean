/-
  Inodes as bytes: package inode's Lay and the document's.
-/
import Derived.Test.YtahpdnfnaimbnaaX4
import Derived.Test.YtahpdnfnaimbnaaX6
import Derived.Deep.RegionHeld3
namespace Go.Proofs.Ytahpdnfnaimbnaa.Inode
open Go.RowKit

set_option maxHeartbeats 800000 in
set_option maxRecDepth 100000 in
theorem lay_no (k r : Nat) (l s p0 p1 p2 p3 p4 p5 p6 p7 p8 p9 : Int) (w : World) (hk : k < 256) (hr : r < 256) (hR : ¬ Right (⟨k, r, l, s, [p0, p1, p2, p3, p4, p5, p6, p7, p8, p9]⟩ : Ino)) :
    Calls Try.prog 10 #[.agg #[.int .u8 (k : Int), .int .u8 (r : Int), .int .i64 l, .int .i64 s, .int .i64 p0, .int .i64 p1, .int .i64 p2, .int .i64 p3, .int .i64 p4, .int .i64 p5, .int .i64 p6, .int .i64 p7, .int .i64 p8, .int .i64 p9]] w fun e w' => HandsB w [] 1 e w' := by
  have HR : Hid (∀ W : World, Calls Try.prog 13 #[.agg #[.int .u8 (k : Int), .int .u8 (r : Int), .int .i64 l, .int .i64 s, .int .i64 p0, .int .i64 p1, .int .i64 p2, .int .i64 p3, .int .i64 p4, .int .i64 p5, .int .i64 p6, .int .i64 p7, .int .i64 p8, .int .i64 p9]] W fun e w' => e = .returned (.bool false) ∧ Below W.heap.size W w') := fun W => by
    have := right_ten k r l s p0 p1 p2 p3 p4 p5 p6 p7 p8 p9 W hk hr
    rwa [rightB_no hR] at this
  clear hk hr hR
  go_enter Try.func10, Try.ntmps10
  go_wp2_with (go_at_call 13; (with_reducible refine (HR.out _).mono ?_); rintro e w1 ⟨he, hb1⟩; obtain rfl := he; obtain ⟨-, hb1', -⟩ := kept_ino hb1; have HB1 := Lib.hid hb1'; clear hb1 hb1')
  go_ret2
  exact ⟨_, rfl, World.ownsRow_nil _ _ _ _, HB1.out⟩
set_option maxHeartbeats 800000 in
set_option maxRecDepth 100000 in
theorem rlay_no (k r : Nat) (l s p0 p1 p2 p3 p4 p5 p6 p7 p8 p9 : Int) (w : World) (hr : r < 256) (hR : ¬ Right (⟨k, r, l, s, [p0, p1, p2, p3, p4, p5, p6, p7, p8, p9]⟩ : Ino)) :
    Calls Try.prog 11 #[.agg #[.int .u8 (k : Int), .int .u8 (r : Int), .int .i64 l, .int .i64 s, .int .i64 p0, .int .i64 p1, .int .i64 p2, .int .i64 p3, .int .i64 p4, .int .i64 p5, .int .i64 p6, .int .i64 p7, .int .i64 p8, .int .i64 p9]] w fun e w' => HandsB w [] 1 e w' := by
  have HR : Hid (∀ W : World, Calls Try.prog 14 #[.agg #[.int .u8 (k : Int), .int .u8 (r : Int), .int .i64 l, .int .i64 s, .int .i64 p0, .int .i64 p1, .int .i64 p2, .int .i64 p3, .int .i64 p4, .int .i64 p5, .int .i64 p6, .int .i64 p7, .int .i64 p8, .int .i64 p9]] W fun e w' => e = .returned (.bool false) ∧ Below W.heap.size W w') := fun W => by
    have := rright_ten k r l s p0 p1 p2 p3 p4 p5 p6 p7 p8 p9 W hr
    rwa [rightB_no hR] at this
  clear hr hR
  go_enter Try.func11, Try.ntmps11
  go_wp2_with (go_at_call 14; (with_reducible refine (HR.out _).mono ?_); rintro e w1 ⟨he, hb1⟩; obtain rfl := he; obtain ⟨-, hb1', -⟩ := kept_ino hb1; have HB1 := Lib.hid hb1'; clear hb1 hb1')
  go_ret2
  exact ⟨_, rfl, World.ownsRow_nil _ _ _ _, HB1.out⟩

theorem right_small {k r : Nat} {l s : Int} {p : List Int} (h : Right ⟨k, r, l, s, p⟩) : ∀ x ∈ l :: s :: p, 0 ≤ x ∧ x < 65536 := by
  obtain ⟨h0, h1, h2⟩ := right_nat h
  have hs := words_small h
  simp only at h0 h1 h2
  intro x hx
  have hx0 : 0 ≤ x := by
    simp only [List.mem_cons] at hx
    rcases hx with rfl | rfl | hx
    · exact h0
    · exact h1
    · exact h2 x hx
  refine ⟨hx0, ?_⟩
  have := hs x.toNat (by
    show x.toNat ∈ (l :: s :: p).map Int.toNat
    exact List.mem_map.2 ⟨x, hx, rfl⟩)
  omega
def bytesV_kr (k r : Nat) : List UInt8 := [UInt8.ofNat k, UInt8.ofNat r]
theorem len24 (l s p0 p1 p2 p3 p4 p5 p6 p7 p8 p9 : Int) : (layl 2 ([l, s, p0, p1, p2, p3, p4, p5, p6, p7, p8, p9].map Int.toNat)).length = 24 := by rw [length_layl]; rfl
theorem len26 (k r : Nat) (l s p0 p1 p2 p3 p4 p5 p6 p7 p8 p9 : Int) : (bytesV_kr k r ++ layl 2 ([l, s, p0, p1, p2, p3, p4, p5, p6, p7, p8, p9].map Int.toNat)).length = 26 := by rw [List.length_append, len24]; rfl
theorem fill32 (l : List UInt8) (A : Option Addr) (c : Nat) (w : World) (hn : l.length = 26) (hr : Rd w w.heap.size A (bytesV l)) :
    Calls Try.prog 28 #[.slice A 26 c, .int .i64 32] w fun e w' => ∃ v, e = .returned (.tuple #[v, .int .i64 0]) ∧ Made w (padl l 32) v w' := fill_ok l A 26 c 32 w hn hr (by omega) (by omega)
theorem byte_of {k : Nat} (h : k < 256) : byteV (UInt8.ofNat k) = .int .u8 (k : Int) := by
  unfold byteV
  congr 1
  simp
  omega
theorem own_kr {k r : Nat} (h : k < 256 ∧ r < 256) (w : World) : (w.alloc (.cells #[.int .u8 (k : Int), .int .u8 (r : Int)] 5)).drew.ownsRow w.heap.size 5 1 (.slice (some ⟨w.heap.size, 0, none⟩) 2 2) 2 (bytesV (bytesV_kr k r)) := by
  have e : bytesV (bytesV_kr k r) = [.int .u8 (k : Int), .int .u8 (r : Int)] := by
    unfold bytesV bytesV_kr
    rw [List.map_cons, List.map_cons, List.map_nil, byte_of h.1, byte_of h.2]
  rw [e]
  have h1 : Bk (w.alloc (.cells #[.int .u8 (k : Int), .int .u8 (r : Int)] 5)).drew w.heap.size 5 [.int .u8 (k : Int), .int .u8 (r : Int)] := Bk.new w 5 _
  exact h1.own 2 rfl (Nat.le_refl _) (by simp only [maxLen]; omega)

theorem own_kr2 {k r : Nat} (h : k < 256 ∧ r < 256) (w : World) : (w.alloc (.cells #[.int .u8 (k : Int), .int .u8 (r : Int)] 5)).ownsRow w.heap.size 5 1 (.slice (some ⟨w.heap.size, 0, none⟩) 2 2) 2 (bytesV (bytesV_kr k r)) := own_kr h w
/-- append onto an own row of ints, or of bytes, as a step of a region. -/
theorem step_app33 {ops : Array Oper} {o : Oper} {a : Act} {w : World} {K : Act → World → Prop} {Q : Exit → Act → World → Prop} {E : Prop} (hgd : o.guard = none) (s x : Operand)
    (ho : o.op = .call { callee := .builtin .append, args := #[s, x], argTypes := #[33, 33] })
    (base : Nat) (v : Value) (n : Nat) (l : List Int) (hs : a.eval s = v) (hown : w.ownsRow base 3 1 v n (intsV l))
    (B : Nat) (A : Option Addr) (m c : Nat) (k : List Int) (hx : a.eval x = .slice A m c) (hm : k.length = m) (hr : Rd w B A (intsV k)) (hbytes : n + m ≤ 1000000) (hbase : base ≤ w.heap.size)
    (h : ∀ v' w', w'.ownsRow base 3 1 v' (n + m) (intsV (l ++ k)) → w.grownBy w' v.ownBlock → K (a.put o.dst v') w') :
    if Region.wanted o (yielded ops a.tmps) = true then Oper.wp Try.prog o a w K Q else E := by
  have hw : Region.wanted o (yielded ops a.tmps) = true := by simp [Region.wanted, hgd]
  rw [if_pos hw]
  obtain ⟨i0, hi, hz0, hz1, hz2⟩ := info_parts info3
  rw [intsV_append] at h
  obtain ⟨v', w', hrun, h2, h3⟩ := run_app (P := Try.prog) w base 33 o.type 3 i0 _ 8 Try.underlying33 hi hz0 hz1 hz2 rfl v n _ hown B A m c _ (by rw [length_intsV, hm]) hr (intsV_one k) (by simp only [maxLen]; omega) (by omega) hbase
  unfold Oper.wp execOp
  simp only [ho, resolve, invoke, builtin, Sem.run_bind, Sem.run_pure, Result.andThen_ok, List.map_toArray, List.map_cons, List.map_nil, hs, hx, hrun]
  exact h v' w' h2 h3
theorem step_app5 {ops : Array Oper} {o : Oper} {a : Act} {w : World} {K : Act → World → Prop} {Q : Exit → Act → World → Prop} {E : Prop} (hgd : o.guard = none) (s x : Operand)
    (ho : o.op = .call { callee := .builtin .append, args := #[s, x], argTypes := #[25, 25] })
    (base : Nat) (v : Value) (n : Nat) (l : List UInt8) (hs : a.eval s = v) (hown : w.ownsRow base 5 1 v n (bytesV l))
    (B : Nat) (A : Option Addr) (m c : Nat) (k : List UInt8) (hx : a.eval x = .slice A m c) (hm : k.length = m) (hr : Rd w B A (bytesV k)) (hbytes : n + m ≤ 1000000) (hbase : base ≤ w.heap.size)
    (h : ∀ v' w', w'.ownsRow base 5 1 v' (n + m) (bytesV (l ++ k)) → w.grownBy w' v.ownBlock → K (a.put o.dst v') w') :
    if Region.wanted o (yielded ops a.tmps) = true then Oper.wp Try.prog o a w K Q else E := by
  have hw : Region.wanted o (yielded ops a.tmps) = true := by simp [Region.wanted, hgd]
  rw [if_pos hw]
  obtain ⟨i0, hi, hz0, hz1, hz2⟩ := info_parts info5
  rw [bytesV_append] at h
  obtain ⟨v', w', hrun, h2, h3⟩ := run_app (P := Try.prog) w base 25 o.type 5 i0 _ 1 Try.underlying25 hi hz0 hz1 hz2 rfl v n _ hown B A m c _ (by rw [length_bytesV, hm]) hr (bytesV_one k) (by simp only [maxLen]; omega) (by omega) hbase
  unfold Oper.wp execOp
  simp only [ho, resolve, invoke, builtin, Sem.run_bind, Sem.run_pure, Result.andThen_ok, List.map_toArray, List.map_cons, List.map_nil, hs, hx, hrun]
  exact h v' w' h2 h3

set_option maxHeartbeats 1600000 in
set_option maxRecDepth 100000 in
theorem lay_yes (k r : Nat) (l s p0 p1 p2 p3 p4 p5 p6 p7 p8 p9 : Int) (w : World) (hk : k < 256) (hr : r < 256) (hR : Right (⟨k, r, l, s, [p0, p1, p2, p3, p4, p5, p6, p7, p8, p9]⟩ : Ino)) :
    Calls Try.prog 10 #[.agg #[.int .u8 (k : Int), .int .u8 (r : Int), .int .i64 l, .int .i64 s, .int .i64 p0, .int .i64 p1, .int .i64 p2, .int .i64 p3, .int .i64 p4, .int .i64 p5, .int .i64 p6, .int .i64 p7, .int .i64 p8, .int .i64 p9]] w fun e w' => HandsB w (bytesI (⟨k, r, l, s, [p0, p1, p2, p3, p4, p5, p6, p7, p8, p9]⟩ : Ino)) 0 e w' := by
  have HR : Hid (∀ W : World, Calls Try.prog 13 #[.agg #[.int .u8 (k : Int), .int .u8 (r : Int), .int .i64 l, .int .i64 s, .int .i64 p0, .int .i64 p1, .int .i64 p2, .int .i64 p3, .int .i64 p4, .int .i64 p5, .int .i64 p6, .int .i64 p7, .int .i64 p8, .int .i64 p9]] W fun e w' => e = .returned (.bool true) ∧ Below W.heap.size W w') := fun W => by
    have := right_ten k r l s p0 p1 p2 p3 p4 p5 p6 p7 p8 p9 W hk hr
    rwa [rightB_yes hR] at this
  have hsm := right_small hR
  have hnat : k < 256 ∧ r < 256 := ⟨hk, hr⟩
  have HPF : Hid (∀ W : World, Calls Try.prog 27 #[.agg #[.int .u8 (k : Int), .int .u8 (r : Int), .int .i64 l, .int .i64 s, .int .i64 p0, .int .i64 p1, .int .i64 p2, .int .i64 p3, .int .i64 p4, .int .i64 p5, .int .i64 p6, .int .i64 p7, .int .i64 p8, .int .i64 p9]] W fun e w' => e = .returned (.agg #[.int .i64 p0, .int .i64 p1, .int .i64 p2, .int .i64 p3, .int .i64 p4, .int .i64 p5, .int .i64 p6, .int .i64 p7, .int .i64 p8, .int .i64 p9]) ∧ Below W.heap.size W w') := fun W => pof_ten k r l s p0 p1 p2 p3 p4 p5 p6 p7 p8 p9 W
  clear hk hr
  go_enter Try.func10, Try.ntmps10
  go_wp2_with (first
    | (go_at_call 13; (with_reducible refine (HR.out _).mono ?_); rintro e w1 ⟨he, hb1⟩; obtain rfl := he; obtain ⟨hk1, hb1', hs1⟩ := kept_ino hb1; obtain ⟨a0, a1, a2, a3, a4, a5, a6, a7, a8, a9, a10, a11, a12, a13⟩ := ino_cells hk1; have HB1 := Lib.hid hb1'; have HK1 := Lib.hid hk1; clear hb1 hb1' hk1)
    | (go_at_call 27; (with_reducible refine (HPF.out _).mono ?_); rintro e w2 ⟨he, hb2⟩; obtain rfl := he))
  have hk2 : Bk (w2.alloc (.cells #[.int .i64 p0, .int .i64 p1, .int .i64 p2, .int .i64 p3, .int .i64 p4, .int .i64 p5, .int .i64 p6, .int .i64 p7, .int .i64 p8, .int .i64 p9] 51)) w.heap.size 24 [.int .u8 (k : Int), .int .u8 (r : Int), .int .i64 l, .int .i64 s, .int .i64 p0, .int .i64 p1, .int .i64 p2, .int .i64 p3, .int .i64 p4, .int .i64 p5, .int .i64 p6, .int .i64 p7, .int .i64 p8, .int .i64 p9] := (HK1.out.below hb2 HK1.out.lt).below (alloc_below w2 _) (Nat.lt_of_lt_of_le hs1 hb2.size)
  have hp2 : Bk (w2.alloc (.cells #[.int .i64 p0, .int .i64 p1, .int .i64 p2, .int .i64 p3, .int .i64 p4, .int .i64 p5, .int .i64 p6, .int .i64 p7, .int .i64 p8, .int .i64 p9] 51)) w2.heap.size 51 [.int .i64 p0, .int .i64 p1, .int .i64 p2, .int .i64 p3, .int .i64 p4, .int .i64 p5, .int .i64 p6, .int .i64 p7, .int .i64 p8, .int .i64 p9] := Bk.new w2 51 _
  have hbb : Below w.heap.size w (w2.alloc (.cells #[.int .i64 p0, .int .i64 p1, .int .i64 p2, .int .i64 p3, .int .i64 p4, .int .i64 p5, .int .i64 p6, .int .i64 p7, .int .i64 p8, .int .i64 p9] 51)) := (HB1.out.trans (hb2.mono (Nat.le_of_lt hs1))).alloc (Nat.le_trans HB1.out.size hb2.size) _
  have hsz : w.heap.size < w2.heap.size := Nat.lt_of_lt_of_le hs1 hb2.size
  have hss : w2.heap.size < (w2.alloc (.cells #[.int .i64 p0, .int .i64 p1, .int .i64 p2, .int .i64 p3, .int .i64 p4, .int .i64 p5, .int .i64 p6, .int .i64 p7, .int .i64 p8, .int .i64 p9] 51)).heap.size := by simp
  clear hb2 a0 a1 a2 a3 a4 a5 a6 a7 a8 a9 a10 a11 a12 a13 HK1 HB1 hs1
  generalize w2.alloc (.cells #[.int .i64 p0, .int .i64 p1, .int .i64 p2, .int .i64 p3, .int .i64 p4, .int .i64 p5, .int .i64 p6, .int .i64 p7, .int .i64 p8, .int .i64 p9] 51) = W at *
  generalize w2.heap.size = g at *
  obtain ⟨a0, a1, a2, a3, a4, a5, a6, a7, a8, a9, a10, a11, a12, a13⟩ := ino_cells hk2
  have hbm : Below W.heap.size W (W.alloc (.cells #[.int .i64 l, .int .i64 s] 3)).drew := below_drew (alloc_below W _)
  have m2 := Lib.hid ((hbm.cell (p := ⟨w.heap.size, 2, none⟩) (show w.heap.size < W.heap.size by omega)).trans a2)
  have m3 := Lib.hid ((hbm.cell (p := ⟨w.heap.size, 3, none⟩) (show w.heap.size < W.heap.size by omega)).trans a3)
  have hpk : Rd (W.alloc (.cells #[.int .i64 l, .int .i64 s] 3)).drew (W.heap.size + 1) (some ⟨g, 0, none⟩) (intsV [p0, p1, p2, p3, p4, p5, p6, p7, p8, p9]) := by
    have h1 := hp2.below hbm (by omega)
    have h2 := h1.rd 10 0
    exact h2.more (by show _ ≤ _; simp [World.drew])
  have how : (W.alloc (.cells #[.int .i64 l, .int .i64 s] 3)).drew.ownsRow W.heap.size 3 1 (.slice (some ⟨W.heap.size, 0, none⟩) 2 2) 2 (intsV [l, s]) := (show Bk (W.alloc (.cells #[.int .i64 l, .int .i64 s] 3)).drew W.heap.size 3 (intsV [l, s]) from Bk.new W 3 (intsV [l, s])).own 2 rfl (Nat.le_refl _) (by simp only [maxLen]; omega)
  have HPK := Lib.hid hpk
  have HOW := Lib.hid how
  have HBM := Lib.hid hbm
  have h01 := Lib.hid a2
  have h02 := Lib.hid a3
  clear hpk how hbm a4 a5 a6 a7 a8 a9 a10 a11 a12 a13
  go_region_held3 (fun u => u.cell? ⟨w.heap.size, 2, none⟩ = some (.int .i64 l) ∧ u.cell? ⟨w.heap.size, 3, none⟩ = some (.int .i64 s) ∧ Below W.heap.size W u) (first | exact ⟨h01.out, h02.out, below_drew (Below.refl _ W)⟩ | exact ⟨m2.out, m3.out, HBM.out⟩ | exact ⟨m42, m43, hb4⟩) (first | (refine step_app33 rfl (.tmp 15) (.tmp 16) rfl W.heap.size (.slice (some ⟨W.heap.size, 0, none⟩) 2 2) 2 [l, s] rfl HOW.out _ (some ⟨g, 0, none⟩) 10 10 [p0, p1, p2, p3, p4, p5, p6, p7, p8, p9] rfl rfl HPK.out (by omega) HBM.out.size ?_; intro v4 w4 hown4 hg4; have hb4 := HBM.out.grown hg4 HBM.out.size (fun q hq => (HOW.out.lt q hq).1); have m42 := (hb4.cell (p := ⟨w.heap.size, 2, none⟩) (show w.heap.size < W.heap.size by omega)).trans h01.out; have m43 := (hb4.cell (p := ⟨w.heap.size, 3, none⟩) (show w.heap.size < W.heap.size by omega)).trans h02.out))
  have hsW : W.heap.size ≤ w4.heap.size := hb4.size
  obtain ⟨_, A4, c4, rfl, hc4, hx4, hr4⟩ := own_rd hown4
  have m40 := (hb4.cell (p := ⟨w.heap.size, 0, none⟩) (show w.heap.size < W.heap.size by omega)).trans a0
  have m41 := (hb4.cell (p := ⟨w.heap.size, 1, none⟩) (show w.heap.size < W.heap.size by omega)).trans a1
  have hb4w : Below w.heap.size w w4 := hbb.trans (hb4.mono (by omega))
  have h4s : w.heap.size < w4.heap.size := by omega
  have HR4 := Lib.hid (show Rd w4 w4.heap.size A4 (intsV [l, s, p0, p1, p2, p3, p4, p5, p6, p7, p8, p9]) from hr4)
  have HB4 := Lib.hid hb4w
  clear hg4 hown4 hr4 hb4w hb4 HPK HOW HBM h01 h02 m2 m3 m42 m43 a0 a1 a2 a3 hbb hk2 hp2 hss hsW
  clear HR HPF
  go_wp2_with fail
  have HN := Lib.hid hnat
  have HS : Hid (∀ x ∈ [l, s, p0, p1, p2, p3, p4, p5, p6, p7, p8, p9], 0 ≤ x ∧ x < 65536) := hsm
  have HY : Hid (bytesI (⟨k, r, l, s, [p0, p1, p2, p3, p4, p5, p6, p7, p8, p9]⟩ : Ino) = padl (bytesV_kr k r ++ layl 2 (([l, s, p0, p1, p2, p3, p4, p5, p6, p7, p8, p9]).map Int.toNat)) 32) := rfl
  have HL24 := Lib.hid (len24 l s p0 p1 p2 p3 p4 p5 p6 p7 p8 p9)
  have HL26 := Lib.hid (len26 k r l s p0 p1 p2 p3 p4 p5 p6 p7 p8 p9)
  have HA0 := Lib.hid m40
  have HA1 := Lib.hid m41
  -- ahead of the call
  have hbA : Below w4.heap.size w4 (w4.alloc (.cells #[.int .u8 (k : Int), .int .u8 (r : Int)] 5)).drew := below_drew (alloc_below w4 _)
  have hoA : (w4.alloc (.cells #[.int .u8 (k : Int), .int .u8 (r : Int)] 5)).drew.ownsRow w4.heap.size 5 1 (.slice (some ⟨w4.heap.size, 0, none⟩) 2 2) 2 (bytesV (bytesV_kr k r)) := own_kr HN.out w4
  have hrA := (HR4.out.below hbA).more hbA.size
  have HBA := Lib.hid hbA
  have HOA := Lib.hid hoA
  have HRA := Lib.hid hrA
  have HRB : Hid (Rd w4.drew w4.drew.heap.size A4 (intsV [l, s, p0, p1, p2, p3, p4, p5, p6, p7, p8, p9])) := HR4.out
  have HBB : Hid (Below w4.heap.size w4 w4.drew) := below_drew (Below.refl _ w4)
  have hA0 := Lib.hid ((HBA.out.cell (p := ⟨w.heap.size, 0, none⟩) h4s).trans m40)
  have hA1 := Lib.hid ((HBA.out.cell (p := ⟨w.heap.size, 1, none⟩) h4s).trans m41)
  clear hbA hoA hrA hnat hsm hc4 hx4
  go_region_held3 (fun u => u.cell? ⟨w.heap.size, 0, none⟩ = some (.int .u8 (k : Int)) ∧ u.cell? ⟨w.heap.size, 1, none⟩ = some (.int .u8 (r : Int)) ∧ Below w4.heap.size w4 u)
    (first | exact ⟨HA0.out, HA1.out, HBB.out⟩ | exact ⟨hA0.out, hA1.out, HBA.out⟩ | exact ⟨m80, m81, hb8⟩ | exact ⟨m70, m71, hb7⟩ | exact ⟨m60, m61, hb6⟩ | exact ⟨n60, n61, nb6⟩)
    (first
      | (go_at_call 29; (with_reducible refine (pack_any [l, s, p0, p1, p2, p3, p4, p5, p6, p7, p8, p9] A4 12 c4 _ rfl HRA.out HS.out (by omega)).mono ?_); rintro e w6 ⟨v6, he, hown6, hc6⟩; obtain rfl := he; rw [HL24.out] at hown6; have hb6 := HBA.out.trans (hc6.mono HBA.out.size); have m60 := (hb6.cell (p := ⟨w.heap.size, 0, none⟩) h4s).trans HA0.out; have m61 := (hb6.cell (p := ⟨w.heap.size, 1, none⟩) h4s).trans HA1.out; have HO6 := Lib.hid (own_below HOA.out hc6); obtain ⟨-, A6, c6, hv6, -, -, hr6⟩ := own_rd hown6; subst hv6; have HR6 := Lib.hid hr6; have HB6 := Lib.hid hb6; clear hown6 hc6 hr6)
      | (go_at_call 29; (with_reducible refine (pack_any [l, s, p0, p1, p2, p3, p4, p5, p6, p7, p8, p9] A4 12 c4 _ rfl HRB.out HS.out (by omega)).mono ?_); rintro e w6 ⟨v6, he, hown6, hc6⟩; obtain rfl := he; rw [HL24.out] at hown6; have hb6 := HBB.out.trans (hc6.mono (Nat.le_refl _)); have m60 := (hb6.cell (p := ⟨w.heap.size, 0, none⟩) h4s).trans HA0.out; have m61 := (hb6.cell (p := ⟨w.heap.size, 1, none⟩) h4s).trans HA1.out; obtain ⟨-, A6, c6, hv6, -, -, hr6⟩ := own_rd hown6; subst hv6; have hbn := alloc_below w6 (.cells #[.int .u8 (k : Int), .int .u8 (r : Int)] 5); have nb6 := hb6.trans (hbn.mono hb6.size); have n60 := (nb6.cell (p := ⟨w.heap.size, 0, none⟩) h4s).trans HA0.out; have n61 := (nb6.cell (p := ⟨w.heap.size, 1, none⟩) h4s).trans HA1.out; have HO6b := Lib.hid (own_mono (own_kr2 HN.out w6) hb6.size); have HR6b := Lib.hid (hr6.below hbn); have NB6 := Lib.hid nb6; clear hown6 hc6 hr6 hbn)
      | (refine step_app5 rfl (.tmp 22) (.tmp 24) rfl w4.heap.size (.slice (some ⟨w4.heap.size, 0, none⟩) 2 2) 2 (bytesV_kr k r) rfl HO6.out _ A6 24 c6 (layl 2 ([l, s, p0, p1, p2, p3, p4, p5, p6, p7, p8, p9].map Int.toNat)) rfl HL24.out HR6.out (by omega) HB6.out.size ?_; intro v7 w7 hown7 hg7; have hb7 := HB6.out.grown hg7 HB6.out.size (fun q hq => (HO6.out.lt q hq).1); have m70 := (hb7.cell (p := ⟨w.heap.size, 0, none⟩) h4s).trans HA0.out; have m71 := (hb7.cell (p := ⟨w.heap.size, 1, none⟩) h4s).trans HA1.out; have hown7' : w7.ownsRow w4.heap.size 5 1 v7 26 (bytesV (bytesV_kr k r ++ layl 2 ([l, s, p0, p1, p2, p3, p4, p5, p6, p7, p8, p9].map Int.toNat))) := hown7; obtain ⟨-, A7, c7, hv7, -, -, hr7⟩ := own_rd hown7'; subst hv7; have HR7 := Lib.hid hr7; have HB7 := Lib.hid hb7; clear hown7 hown7' hr7 hg7)
      | (refine step_app5 rfl (.tmp 22) (.tmp 24) rfl w4.heap.size (.slice (some ⟨w6.heap.size, 0, none⟩) 2 2) 2 (bytesV_kr k r) rfl HO6b.out _ A6 24 c6 (layl 2 ([l, s, p0, p1, p2, p3, p4, p5, p6, p7, p8, p9].map Int.toNat)) rfl HL24.out HR6b.out (by omega) NB6.out.size ?_; intro v7 w7 hown7 hg7; have hb7 := NB6.out.grown hg7 NB6.out.size (fun q hq => (HO6b.out.lt q hq).1); have m70 := (hb7.cell (p := ⟨w.heap.size, 0, none⟩) h4s).trans HA0.out; have m71 := (hb7.cell (p := ⟨w.heap.size, 1, none⟩) h4s).trans HA1.out; have hown7' : w7.ownsRow w4.heap.size 5 1 v7 26 (bytesV (bytesV_kr k r ++ layl 2 ([l, s, p0, p1, p2, p3, p4, p5, p6, p7, p8, p9].map Int.toNat))) := hown7; obtain ⟨-, A7, c7, hv7, -, -, hr7⟩ := own_rd hown7'; subst hv7; have HR7 := Lib.hid hr7; have HB7 := Lib.hid hb7; clear hown7 hown7' hr7 hg7)
      | (go_at_call 28; (with_reducible refine (fill32 (bytesV_kr k r ++ layl 2 ([l, s, p0, p1, p2, p3, p4, p5, p6, p7, p8, p9].map Int.toNat)) A7 c7 _ HL26.out HR7.out).mono ?_); rintro e w8 ⟨v8, he, hm8⟩; obtain rfl := he; have hb8 := HB7.out.trans (hm8.2.mono HB7.out.size); have m80 := (hb8.cell (p := ⟨w.heap.size, 0, none⟩) h4s).trans HA0.out; have m81 := (hb8.cell (p := ⟨w.heap.size, 1, none⟩) h4s).trans HA1.out; have HM8 := Lib.hid hm8; have HB8 := Lib.hid hb8; clear hm8))
  all_goals
    have h47 := HB7.out.size
    go_wp2
    go_ret2
    exact ⟨_, rfl, own_mono HM8.out.1 (by omega), HB4.out.trans (HB8.out.mono (by omega))⟩
end Go.Proofs.Ytahpdnfnaimbnaa.Inode
