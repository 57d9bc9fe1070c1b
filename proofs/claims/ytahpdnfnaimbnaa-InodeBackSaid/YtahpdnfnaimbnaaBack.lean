/-
  InodeBack: whatever the inode and the bytes: what was laid is taken, and what is taken is laid so.
-/
import Derived.Test.YtahpdnfnaimbnaaTakes
namespace Go.Proofs.Ytahpdnfnaimbnaa
open Go.ChangeShapes Go.WideShapes Go.ChangeAt Go.RowKit Inode

/-- What is taken is laid so, or there is none. -/
theorem tak_cases (b : List UInt8) : (∃ n, takI b = (n, 0) ∧ Oki n ∧ Right n ∧ bytesI n = b ∧ b.length = 32) ∨ takI b = (.z, 110) := by
  by_cases h1 : b.length = 32
  · by_cases h2 : Right (unI b)
    · by_cases h3 : bytesI (unI b) = b
      · exact .inl ⟨unI b, takI_yes h1 h2 h3, oki_unI b, h2, h3, h1⟩
      · exact .inr (takI_not h3)
    · exact .inr (takI_bad h2)
  · exact .inr (takI_len h1)

set_option maxHeartbeats 3200000 in
set_option maxRecDepth 100000 in
theorem back11 (k r : Nat) (l s p0 p1 p2 p3 p4 p5 p6 p7 p8 p9 : Int) (b : List UInt8) (A : Option Addr) (n c : Nat) (w : World) (hk : k < 256) (hr : r < 256) (hn : b.length = n) (hc : n ≤ c) (hrd : Rd w w.heap.size A (bytesV b)) (h200 : n ≤ 200) (hR : Right (⟨k, r, l, s, [p0, p1, p2, p3, p4, p5, p6, p7, p8, p9]⟩ : Ino)) (k2 r2 : Nat) (l2 s2 q0 q1 q2 q3 q4 q5 q6 q7 q8 q9 : Int) (hT : takI b = ((⟨k2, r2, l2, s2, [q0, q1, q2, q3, q4, q5, q6, q7, q8, q9]⟩ : Ino), 0)) (ho2 : Oki (⟨k2, r2, l2, s2, [q0, q1, q2, q3, q4, q5, q6, q7, q8, q9]⟩ : Ino)) (hR2 : Right (⟨k2, r2, l2, s2, [q0, q1, q2, q3, q4, q5, q6, q7, q8, q9]⟩ : Ino)) (hb2 : bytesI (⟨k2, r2, l2, s2, [q0, q1, q2, q3, q4, q5, q6, q7, q8, q9]⟩ : Ino) = b) (_ : b.length = 32) :
    Calls Try.prog 6 #[.agg #[.int .u8 (k : Int), .int .u8 (r : Int), .int .i64 l, .int .i64 s, .int .i64 p0, .int .i64 p1, .int .i64 p2, .int .i64 p3, .int .i64 p4, .int .i64 p5, .int .i64 p6, .int .i64 p7, .int .i64 p8, .int .i64 p9], .slice A n c] w fun e w' => e = .returned (.bool true) ∧ Below w.heap.size w w' := by
  obtain ⟨bs, hbs⟩ : ∃ bs, bs = bytesI (⟨k, r, l, s, [p0, p1, p2, p3, p4, p5, p6, p7, p8, p9]⟩ : Ino) := ⟨_, rfl⟩
  have hlb : bs.length = 32 := by rw [hbs]; exact length_bytesI ⟨rfl, hk, hr⟩
  have HTK : Hid (∀ (W : World) (A1 : Option Addr) (d : Nat), Rd W W.heap.size A1 (bytesV bs) → 32 ≤ d → Calls Try.prog 15 #[.slice A1 32 d] W fun e w' => e = .returned (.tuple #[.agg #[.int .u8 (k : Int), .int .u8 (r : Int), .int .i64 l, .int .i64 s, .int .i64 p0, .int .i64 p1, .int .i64 p2, .int .i64 p3, .int .i64 p4, .int .i64 p5, .int .i64 p6, .int .i64 p7, .int .i64 p8, .int .i64 p9], .int .i64 0]) ∧ Below W.heap.size W w') := fun W A1 d h hd => by
    have := take_any bs A1 32 d W hlb h hd
    rw [hbs, tak_lay hR ⟨rfl, hk, hr⟩] at this
    exact this
  have HLY : Hid (∀ W : World, Calls Try.prog 10 #[.agg #[.int .u8 (k : Int), .int .u8 (r : Int), .int .i64 l, .int .i64 s, .int .i64 p0, .int .i64 p1, .int .i64 p2, .int .i64 p3, .int .i64 p4, .int .i64 p5, .int .i64 p6, .int .i64 p7, .int .i64 p8, .int .i64 p9]] W fun e w' => HandsB W bs 0 e w') := fun W => by
    have := lay_ino (⟨k, r, l, s, [p0, p1, p2, p3, p4, p5, p6, p7, p8, p9]⟩ : Ino) ⟨rfl, hk, hr⟩ W
    rw [layI_yes hR, ← hbs] at this
    exact this
  have HRT : Hid (∀ W : World, Calls Try.prog 13 #[.agg #[.int .u8 (k : Int), .int .u8 (r : Int), .int .i64 l, .int .i64 s, .int .i64 p0, .int .i64 p1, .int .i64 p2, .int .i64 p3, .int .i64 p4, .int .i64 p5, .int .i64 p6, .int .i64 p7, .int .i64 p8, .int .i64 p9]] W fun e w' => e = .returned (.bool true) ∧ Below W.heap.size W w') := fun W => by
    have := right_ten k r l s p0 p1 p2 p3 p4 p5 p6 p7 p8 p9 W hk hr
    rwa [rightB_yes hR] at this
  have HLB := Lib.hid hlb
  have hne : ∀ W, (binOp .neq 24 (.agg #[.int .u8 (k : Int), .int .u8 (r : Int), .int .i64 l, .int .i64 s, .int .i64 p0, .int .i64 p1, .int .i64 p2, .int .i64 p3, .int .i64 p4, .int .i64 p5, .int .i64 p6, .int .i64 p7, .int .i64 p8, .int .i64 p9]) (.agg #[.int .u8 (k : Int), .int .u8 (r : Int), .int .i64 l, .int .i64 s, .int .i64 p0, .int .i64 p1, .int .i64 p2, .int .i64 p3, .int .i64 p4, .int .i64 p5, .int .i64 p6, .int .i64 p7, .int .i64 p8, .int .i64 p9])).run Try.prog W = .ok (.bool false) W := fun W => by
    have := ino_neq W (⟨k, r, l, s, [p0, p1, p2, p3, p4, p5, p6, p7, p8, p9]⟩ : Ino) (⟨k, r, l, s, [p0, p1, p2, p3, p4, p5, p6, p7, p8, p9]⟩ : Ino) ⟨rfl, hk, hr⟩ ⟨rfl, hk, hr⟩
    rwa [decB_yes rfl] at this
  clear hlb hbs hR
  have HTB : Hid (∀ W : World, Below w.heap.size w W → Calls Try.prog 15 #[.slice A n c] W fun e w' => e = .returned (.tuple #[.agg #[.int .u8 (k2 : Int), .int .u8 (r2 : Int), .int .i64 l2, .int .i64 s2, .int .i64 q0, .int .i64 q1, .int .i64 q2, .int .i64 q3, .int .i64 q4, .int .i64 q5, .int .i64 q6, .int .i64 q7, .int .i64 q8, .int .i64 q9], .int .i64 0]) ∧ Below W.heap.size W w') := fun W h => by
    have := take_any b A n c W hn ((hrd.below h).more h.size) hc
    rw [hT] at this
    exact this
  have HLK : Hid (∀ W : World, Calls Try.prog 10 #[.agg #[.int .u8 (k2 : Int), .int .u8 (r2 : Int), .int .i64 l2, .int .i64 s2, .int .i64 q0, .int .i64 q1, .int .i64 q2, .int .i64 q3, .int .i64 q4, .int .i64 q5, .int .i64 q6, .int .i64 q7, .int .i64 q8, .int .i64 q9]] W fun e w' => HandsB W b 0 e w') := fun W => by
    have := lay_ino (⟨k2, r2, l2, s2, [q0, q1, q2, q3, q4, q5, q6, q7, q8, q9]⟩ : Ino) ho2 W
    rw [layI_yes hR2, hb2] at this
    exact this
  clear hT ho2 hR2 hb2
  have hg : ∀ (x y : Operand) (xs ys : Array Value) (op : BinOp) (W : World), (eqGuard op 24 x y (.agg xs) (.agg ys)).run Try.prog W = .ok () W := fun x y xs ys op W => guard_at24 W x y xs ys op
  have HNN := Lib.hid hn
  have HRD := Lib.hid hrd
  clear hk hr hn hrd hc
  go_enter Try.func6, Try.ntmps6
  go_wp2_with (first
    | (go_at_call 12; (with_reducible refine (shown_any _).mono ?_); rintro e w1 ⟨he, hb1⟩; obtain rfl := he; obtain ⟨hk1, hb1', hs1⟩ := kept_ino hb1; obtain ⟨a0, a1, a2, a3, a4, a5, a6, a7, a8, a9, a10, a11, a12, a13⟩ := ino_cells hk1; have HK1 := Lib.hid hk1; have HB1 := Lib.hid hb1'; clear hb1 hb1' hk1)
    | (go_at_call 10; (with_reducible refine (HLY.out _).mono ?_); rintro e w2 hh; obtain ⟨A2, d2, he, hd2, hr2, hb2⟩ := hh.got (n := 32) HLB.out; obtain rfl := he; have HB2 := Lib.hid (HB1.out.trans (hb2.mono HB1.out.size)); have HK2 := Lib.hid (HK1.out.below hb2 HK1.out.lt); have HR2 := Lib.hid hr2; clear hh hb2 hr2 a0 a1 a2 a3 a4 a5 a6 a7 a8 a9 a10 a11 a12 a13)
    | (go_at_call 15; (with_reducible refine (HTK.out _ A2 d2 HR2.out hd2).mono ?_); rintro e w3 ⟨he, hb3⟩; obtain rfl := he; have HB3 := Lib.hid (HB2.out.trans (hb3.mono HB2.out.size)); have HK3 := Lib.hid (HK2.out.below hb3 HK2.out.lt); have hs3 := HK3.out.lt; obtain ⟨a0, a1, a2, a3, a4, a5, a6, a7, a8, a9, a10, a11, a12, a13⟩ := ino_cells HK3.out; clear hb3)
    | (go_at_call 13; (with_reducible refine (HRT.out _).mono ?_); rintro e w4 ⟨he, hb4⟩; obtain rfl := he; obtain ⟨hm4, hb4', hs4⟩ := kept_ino hb4; have HB4 := Lib.hid (HB3.out.trans (hb4'.mono HB3.out.size)); clear a0 a1 a2 a3 a4 a5 a6 a7 a8 a9 a10 a11 a12 a13; obtain ⟨a0, a1, a2, a3, a4, a5, a6, a7, a8, a9, a10, a11, a12, a13⟩ := ino_cells (HK3.out.below hb4' HK3.out.lt); obtain ⟨m0, m1, m2, m3, m4, m5, m6, m7, m8, m9, m10, m11, m12, m13⟩ := ino_cells hm4; clear hb4 hb4' hm4)
    | (go_at_call 15; (with_reducible refine (HTB.out _ HB4.out).mono ?_); rintro e w5 ⟨he, hb5⟩; obtain rfl := he; have HB5 := Lib.hid (HB4.out.trans (hb5.mono HB4.out.size)); have HB5' := Lib.hid (HB5.out.alloc HB5.out.size (.cells #[.int .u8 (k2 : Int), .int .u8 (r2 : Int), .int .i64 l2, .int .i64 s2, .int .i64 q0, .int .i64 q1, .int .i64 q2, .int .i64 q3, .int .i64 q4, .int .i64 q5, .int .i64 q6, .int .i64 q7, .int .i64 q8, .int .i64 q9] 24)); clear hb5 a0 a1 a2 a3 a4 a5 a6 a7 a8 a9 a10 a11 a12 a13 m0 m1 m2 m3 m4 m5 m6 m7 m8 m9 m10 m11 m12 m13)
    | (go_at_call 10; (with_reducible refine (HLK.out _).mono ?_); rintro e w6 hh; obtain ⟨A6, d6, he, -, hr6, hb6⟩ := hh.got (n := n) HNN.out; obtain rfl := he; have HB6 := Lib.hid (HB5'.out.trans (hb6.mono HB5'.out.size)); have s1 := str_of (c := d6) HNN.out hr6; have s2 := str_of (c := c) HNN.out (HRD.out.below HB6.out); clear hh hb6 hr6))
  go_ret
  exact ⟨rfl, HB6.out⟩

set_option maxHeartbeats 3200000 in
set_option maxRecDepth 100000 in
theorem back10 (k r : Nat) (l s p0 p1 p2 p3 p4 p5 p6 p7 p8 p9 : Int) (b : List UInt8) (A : Option Addr) (n c : Nat) (w : World) (hk : k < 256) (hr : r < 256) (hn : b.length = n) (hc : n ≤ c) (hrd : Rd w w.heap.size A (bytesV b)) (h200 : n ≤ 200) (hR : Right (⟨k, r, l, s, [p0, p1, p2, p3, p4, p5, p6, p7, p8, p9]⟩ : Ino)) (hT : takI b = (.z, 110)) :
    Calls Try.prog 6 #[.agg #[.int .u8 (k : Int), .int .u8 (r : Int), .int .i64 l, .int .i64 s, .int .i64 p0, .int .i64 p1, .int .i64 p2, .int .i64 p3, .int .i64 p4, .int .i64 p5, .int .i64 p6, .int .i64 p7, .int .i64 p8, .int .i64 p9], .slice A n c] w fun e w' => e = .returned (.bool true) ∧ Below w.heap.size w w' := by
  obtain ⟨bs, hbs⟩ : ∃ bs, bs = bytesI (⟨k, r, l, s, [p0, p1, p2, p3, p4, p5, p6, p7, p8, p9]⟩ : Ino) := ⟨_, rfl⟩
  have hlb : bs.length = 32 := by rw [hbs]; exact length_bytesI ⟨rfl, hk, hr⟩
  have HTK : Hid (∀ (W : World) (A1 : Option Addr) (d : Nat), Rd W W.heap.size A1 (bytesV bs) → 32 ≤ d → Calls Try.prog 15 #[.slice A1 32 d] W fun e w' => e = .returned (.tuple #[.agg #[.int .u8 (k : Int), .int .u8 (r : Int), .int .i64 l, .int .i64 s, .int .i64 p0, .int .i64 p1, .int .i64 p2, .int .i64 p3, .int .i64 p4, .int .i64 p5, .int .i64 p6, .int .i64 p7, .int .i64 p8, .int .i64 p9], .int .i64 0]) ∧ Below W.heap.size W w') := fun W A1 d h hd => by
    have := take_any bs A1 32 d W hlb h hd
    rw [hbs, tak_lay hR ⟨rfl, hk, hr⟩] at this
    exact this
  have HLY : Hid (∀ W : World, Calls Try.prog 10 #[.agg #[.int .u8 (k : Int), .int .u8 (r : Int), .int .i64 l, .int .i64 s, .int .i64 p0, .int .i64 p1, .int .i64 p2, .int .i64 p3, .int .i64 p4, .int .i64 p5, .int .i64 p6, .int .i64 p7, .int .i64 p8, .int .i64 p9]] W fun e w' => HandsB W bs 0 e w') := fun W => by
    have := lay_ino (⟨k, r, l, s, [p0, p1, p2, p3, p4, p5, p6, p7, p8, p9]⟩ : Ino) ⟨rfl, hk, hr⟩ W
    rw [layI_yes hR, ← hbs] at this
    exact this
  have HRT : Hid (∀ W : World, Calls Try.prog 13 #[.agg #[.int .u8 (k : Int), .int .u8 (r : Int), .int .i64 l, .int .i64 s, .int .i64 p0, .int .i64 p1, .int .i64 p2, .int .i64 p3, .int .i64 p4, .int .i64 p5, .int .i64 p6, .int .i64 p7, .int .i64 p8, .int .i64 p9]] W fun e w' => e = .returned (.bool true) ∧ Below W.heap.size W w') := fun W => by
    have := right_ten k r l s p0 p1 p2 p3 p4 p5 p6 p7 p8 p9 W hk hr
    rwa [rightB_yes hR] at this
  have HLB := Lib.hid hlb
  have hne : ∀ W, (binOp .neq 24 (.agg #[.int .u8 (k : Int), .int .u8 (r : Int), .int .i64 l, .int .i64 s, .int .i64 p0, .int .i64 p1, .int .i64 p2, .int .i64 p3, .int .i64 p4, .int .i64 p5, .int .i64 p6, .int .i64 p7, .int .i64 p8, .int .i64 p9]) (.agg #[.int .u8 (k : Int), .int .u8 (r : Int), .int .i64 l, .int .i64 s, .int .i64 p0, .int .i64 p1, .int .i64 p2, .int .i64 p3, .int .i64 p4, .int .i64 p5, .int .i64 p6, .int .i64 p7, .int .i64 p8, .int .i64 p9])).run Try.prog W = .ok (.bool false) W := fun W => by
    have := ino_neq W (⟨k, r, l, s, [p0, p1, p2, p3, p4, p5, p6, p7, p8, p9]⟩ : Ino) (⟨k, r, l, s, [p0, p1, p2, p3, p4, p5, p6, p7, p8, p9]⟩ : Ino) ⟨rfl, hk, hr⟩ ⟨rfl, hk, hr⟩
    rwa [decB_yes rfl] at this
  clear hlb hbs hR
  have HTB : Hid (∀ W : World, Below w.heap.size w W → Calls Try.prog 15 #[.slice A n c] W fun e w' => e = .returned (.tuple #[.agg #[.int .u8 0, .int .u8 0, .int .i64 0, .int .i64 0, .int .i64 0, .int .i64 0, .int .i64 0, .int .i64 0, .int .i64 0, .int .i64 0, .int .i64 0, .int .i64 0, .int .i64 0, .int .i64 0], .int .i64 110]) ∧ Below W.heap.size W w') := fun W h => by
    have := take_any b A n c W hn ((hrd.below h).more h.size) hc
    rw [hT] at this
    exact this
  have HLK : Hid (∀ W : World, Calls Try.prog 10 #[.agg #[.int .u8 0, .int .u8 0, .int .i64 0, .int .i64 0, .int .i64 0, .int .i64 0, .int .i64 0, .int .i64 0, .int .i64 0, .int .i64 0, .int .i64 0, .int .i64 0, .int .i64 0, .int .i64 0]] W fun e w' => HandsB W (bytesI .z) 0 e w') := fun W => by
    have := lay_ino .z Oki.z W
    rw [layI_yes (.inl rfl)] at this
    exact this
  have hez : ∀ W, (binOp .eql 24 (.agg #[.int .u8 0, .int .u8 0, .int .i64 0, .int .i64 0, .int .i64 0, .int .i64 0, .int .i64 0, .int .i64 0, .int .i64 0, .int .i64 0, .int .i64 0, .int .i64 0, .int .i64 0, .int .i64 0]) (.agg #[.int .u8 0, .int .u8 0, .int .i64 0, .int .i64 0, .int .i64 0, .int .i64 0, .int .i64 0, .int .i64 0, .int .i64 0, .int .i64 0, .int .i64 0, .int .i64 0, .int .i64 0, .int .i64 0])).run Try.prog W = .ok (.bool true) W := fun W => by
    have := ino_eql W .z .z Oki.z Oki.z
    rw [decB_yes rfl] at this
    exact this
  have HLZ := Lib.hid (length_bytesI Oki.z)
  clear hT
  have hg : ∀ (x y : Operand) (xs ys : Array Value) (op : BinOp) (W : World), (eqGuard op 24 x y (.agg xs) (.agg ys)).run Try.prog W = .ok () W := fun x y xs ys op W => guard_at24 W x y xs ys op
  have HNN := Lib.hid hn
  have HRD := Lib.hid hrd
  clear hk hr hn hrd hc
  go_enter Try.func6, Try.ntmps6
  go_wp2_with (first
    | (go_at_call 12; (with_reducible refine (shown_any _).mono ?_); rintro e w1 ⟨he, hb1⟩; obtain rfl := he; obtain ⟨hk1, hb1', hs1⟩ := kept_ino hb1; obtain ⟨a0, a1, a2, a3, a4, a5, a6, a7, a8, a9, a10, a11, a12, a13⟩ := ino_cells hk1; have HK1 := Lib.hid hk1; have HB1 := Lib.hid hb1'; clear hb1 hb1' hk1)
    | (go_at_call 10; (with_reducible refine (HLY.out _).mono ?_); rintro e w2 hh; obtain ⟨A2, d2, he, hd2, hr2, hb2⟩ := hh.got (n := 32) HLB.out; obtain rfl := he; have HB2 := Lib.hid (HB1.out.trans (hb2.mono HB1.out.size)); have HK2 := Lib.hid (HK1.out.below hb2 HK1.out.lt); have HR2 := Lib.hid hr2; clear hh hb2 hr2 a0 a1 a2 a3 a4 a5 a6 a7 a8 a9 a10 a11 a12 a13)
    | (go_at_call 15; (with_reducible refine (HTK.out _ A2 d2 HR2.out hd2).mono ?_); rintro e w3 ⟨he, hb3⟩; obtain rfl := he; have HB3 := Lib.hid (HB2.out.trans (hb3.mono HB2.out.size)); have HK3 := Lib.hid (HK2.out.below hb3 HK2.out.lt); have hs3 := HK3.out.lt; obtain ⟨a0, a1, a2, a3, a4, a5, a6, a7, a8, a9, a10, a11, a12, a13⟩ := ino_cells HK3.out; clear hb3)
    | (go_at_call 13; (with_reducible refine (HRT.out _).mono ?_); rintro e w4 ⟨he, hb4⟩; obtain rfl := he; obtain ⟨hm4, hb4', hs4⟩ := kept_ino hb4; have HB4 := Lib.hid (HB3.out.trans (hb4'.mono HB3.out.size)); clear a0 a1 a2 a3 a4 a5 a6 a7 a8 a9 a10 a11 a12 a13; obtain ⟨a0, a1, a2, a3, a4, a5, a6, a7, a8, a9, a10, a11, a12, a13⟩ := ino_cells (HK3.out.below hb4' HK3.out.lt); obtain ⟨m0, m1, m2, m3, m4, m5, m6, m7, m8, m9, m10, m11, m12, m13⟩ := ino_cells hm4; clear hb4 hb4' hm4)
    | (go_at_call 15; (with_reducible refine (HTB.out _ HB4.out).mono ?_); rintro e w5 ⟨he, hb5⟩; obtain rfl := he; have HB5 := Lib.hid (HB4.out.trans (hb5.mono HB4.out.size)); have HB5' := Lib.hid (HB5.out.alloc HB5.out.size (.cells #[.int .u8 0, .int .u8 0, .int .i64 0, .int .i64 0, .int .i64 0, .int .i64 0, .int .i64 0, .int .i64 0, .int .i64 0, .int .i64 0, .int .i64 0, .int .i64 0, .int .i64 0, .int .i64 0] 24)); clear hb5 a0 a1 a2 a3 a4 a5 a6 a7 a8 a9 a10 a11 a12 a13 m0 m1 m2 m3 m4 m5 m6 m7 m8 m9 m10 m11 m12 m13)
    | (go_at_call 10; (with_reducible refine (HLK.out _).mono ?_); rintro e w6 hh; obtain ⟨A6, d6, he, -, hr6, hb6⟩ := hh.got (n := 32) HLZ.out; obtain rfl := he; have HB6 := Lib.hid (HB5'.out.trans (hb6.mono HB5'.out.size)); have hj6 := (kept_ino hb6).1; have hl6 := hj6.lt; obtain ⟨y0, y1, y2, y3, y4, y5, y6, y7, y8, y9, y10, y11, y12, y13⟩ := ino_cells hj6; clear hh hb6 hr6 hj6))
  go_ret
  exact ⟨rfl, HB6.out⟩

set_option maxHeartbeats 3200000 in
set_option maxRecDepth 100000 in
theorem back01 (k r : Nat) (l s p0 p1 p2 p3 p4 p5 p6 p7 p8 p9 : Int) (b : List UInt8) (A : Option Addr) (n c : Nat) (w : World) (hk : k < 256) (hr : r < 256) (hn : b.length = n) (hc : n ≤ c) (hrd : Rd w w.heap.size A (bytesV b)) (h200 : n ≤ 200) (hR : ¬ Right (⟨k, r, l, s, [p0, p1, p2, p3, p4, p5, p6, p7, p8, p9]⟩ : Ino)) (k2 r2 : Nat) (l2 s2 q0 q1 q2 q3 q4 q5 q6 q7 q8 q9 : Int) (hT : takI b = ((⟨k2, r2, l2, s2, [q0, q1, q2, q3, q4, q5, q6, q7, q8, q9]⟩ : Ino), 0)) (ho2 : Oki (⟨k2, r2, l2, s2, [q0, q1, q2, q3, q4, q5, q6, q7, q8, q9]⟩ : Ino)) (hR2 : Right (⟨k2, r2, l2, s2, [q0, q1, q2, q3, q4, q5, q6, q7, q8, q9]⟩ : Ino)) (hb2 : bytesI (⟨k2, r2, l2, s2, [q0, q1, q2, q3, q4, q5, q6, q7, q8, q9]⟩ : Ino) = b) (_ : b.length = 32) :
    Calls Try.prog 6 #[.agg #[.int .u8 (k : Int), .int .u8 (r : Int), .int .i64 l, .int .i64 s, .int .i64 p0, .int .i64 p1, .int .i64 p2, .int .i64 p3, .int .i64 p4, .int .i64 p5, .int .i64 p6, .int .i64 p7, .int .i64 p8, .int .i64 p9], .slice A n c] w fun e w' => e = .returned (.bool true) ∧ Below w.heap.size w w' := by
  have HTK : Hid (∀ (W : World) (A1 : Option Addr) (d : Nat), Rd W W.heap.size A1 (bytesV []) → 0 ≤ d → Calls Try.prog 15 #[.slice A1 0 d] W fun e w' => e = .returned (.tuple #[.agg #[.int .u8 0, .int .u8 0, .int .i64 0, .int .i64 0, .int .i64 0, .int .i64 0, .int .i64 0, .int .i64 0, .int .i64 0, .int .i64 0, .int .i64 0, .int .i64 0, .int .i64 0, .int .i64 0], .int .i64 110]) ∧ Below W.heap.size W w') := fun W A1 d h hd => by
    have := take_any [] A1 0 d W rfl h hd
    rw [takI_len (show ([] : List UInt8).length ≠ 32 by decide)] at this
    exact this
  have HLY : Hid (∀ W : World, Calls Try.prog 10 #[.agg #[.int .u8 (k : Int), .int .u8 (r : Int), .int .i64 l, .int .i64 s, .int .i64 p0, .int .i64 p1, .int .i64 p2, .int .i64 p3, .int .i64 p4, .int .i64 p5, .int .i64 p6, .int .i64 p7, .int .i64 p8, .int .i64 p9]] W fun e w' => HandsB W [] 1 e w') := fun W => by
    have := lay_ino (⟨k, r, l, s, [p0, p1, p2, p3, p4, p5, p6, p7, p8, p9]⟩ : Ino) ⟨rfl, hk, hr⟩ W
    rw [layI_no hR] at this
    exact this
  have HRT : Hid (∀ W : World, Calls Try.prog 13 #[.agg #[.int .u8 (k : Int), .int .u8 (r : Int), .int .i64 l, .int .i64 s, .int .i64 p0, .int .i64 p1, .int .i64 p2, .int .i64 p3, .int .i64 p4, .int .i64 p5, .int .i64 p6, .int .i64 p7, .int .i64 p8, .int .i64 p9]] W fun e w' => e = .returned (.bool false) ∧ Below W.heap.size W w') := fun W => by
    have := right_ten k r l s p0 p1 p2 p3 p4 p5 p6 p7 p8 p9 W hk hr
    rwa [rightB_no hR] at this
  clear hR
  have HTB : Hid (∀ W : World, Below w.heap.size w W → Calls Try.prog 15 #[.slice A n c] W fun e w' => e = .returned (.tuple #[.agg #[.int .u8 (k2 : Int), .int .u8 (r2 : Int), .int .i64 l2, .int .i64 s2, .int .i64 q0, .int .i64 q1, .int .i64 q2, .int .i64 q3, .int .i64 q4, .int .i64 q5, .int .i64 q6, .int .i64 q7, .int .i64 q8, .int .i64 q9], .int .i64 0]) ∧ Below W.heap.size W w') := fun W h => by
    have := take_any b A n c W hn ((hrd.below h).more h.size) hc
    rw [hT] at this
    exact this
  have HLK : Hid (∀ W : World, Calls Try.prog 10 #[.agg #[.int .u8 (k2 : Int), .int .u8 (r2 : Int), .int .i64 l2, .int .i64 s2, .int .i64 q0, .int .i64 q1, .int .i64 q2, .int .i64 q3, .int .i64 q4, .int .i64 q5, .int .i64 q6, .int .i64 q7, .int .i64 q8, .int .i64 q9]] W fun e w' => HandsB W b 0 e w') := fun W => by
    have := lay_ino (⟨k2, r2, l2, s2, [q0, q1, q2, q3, q4, q5, q6, q7, q8, q9]⟩ : Ino) ho2 W
    rw [layI_yes hR2, hb2] at this
    exact this
  clear hT ho2 hR2 hb2
  have hg : ∀ (x y : Operand) (xs ys : Array Value) (op : BinOp) (W : World), (eqGuard op 24 x y (.agg xs) (.agg ys)).run Try.prog W = .ok () W := fun x y xs ys op W => guard_at24 W x y xs ys op
  have HNN := Lib.hid hn
  have HRD := Lib.hid hrd
  clear hk hr hn hrd hc
  go_enter Try.func6, Try.ntmps6
  go_wp2_with (first
    | (go_at_call 12; (with_reducible refine (shown_any _).mono ?_); rintro e w1 ⟨he, hb1⟩; obtain rfl := he; obtain ⟨hk1, hb1', hs1⟩ := kept_ino hb1; obtain ⟨a0, a1, a2, a3, a4, a5, a6, a7, a8, a9, a10, a11, a12, a13⟩ := ino_cells hk1; have HK1 := Lib.hid hk1; have HB1 := Lib.hid hb1'; clear hb1 hb1' hk1)
    | (go_at_call 10; (with_reducible refine (HLY.out _).mono ?_); rintro e w2 hh; obtain ⟨A2, d2, he, hd2, hr2, hb2⟩ := hh.got (n := 0) rfl; obtain rfl := he; have HB2 := Lib.hid (HB1.out.trans (hb2.mono HB1.out.size)); have HK2 := Lib.hid (HK1.out.below hb2 HK1.out.lt); have HR2 := Lib.hid hr2; clear hh hb2 hr2 a0 a1 a2 a3 a4 a5 a6 a7 a8 a9 a10 a11 a12 a13)
    | (go_at_call 15; (with_reducible refine (HTK.out _ A2 d2 HR2.out hd2).mono ?_); rintro e w3 ⟨he, hb3⟩; obtain rfl := he; have HB3 := Lib.hid (HB2.out.trans (hb3.mono HB2.out.size)); have HK3 := Lib.hid (HK2.out.below hb3 HK2.out.lt); have hs3 := HK3.out.lt; obtain ⟨a0, a1, a2, a3, a4, a5, a6, a7, a8, a9, a10, a11, a12, a13⟩ := ino_cells HK3.out; clear hb3)
    | (go_at_call 13; (with_reducible refine (HRT.out _).mono ?_); rintro e w4 ⟨he, hb4⟩; obtain rfl := he; obtain ⟨hm4, hb4', hs4⟩ := kept_ino hb4; have HB4 := Lib.hid (HB3.out.trans (hb4'.mono HB3.out.size)); clear a0 a1 a2 a3 a4 a5 a6 a7 a8 a9 a10 a11 a12 a13; obtain ⟨a0, a1, a2, a3, a4, a5, a6, a7, a8, a9, a10, a11, a12, a13⟩ := ino_cells (HK3.out.below hb4' HK3.out.lt); obtain ⟨m0, m1, m2, m3, m4, m5, m6, m7, m8, m9, m10, m11, m12, m13⟩ := ino_cells hm4; clear hb4 hb4' hm4)
    | (go_at_call 15; (with_reducible refine (HTB.out _ HB4.out).mono ?_); rintro e w5 ⟨he, hb5⟩; obtain rfl := he; have HB5 := Lib.hid (HB4.out.trans (hb5.mono HB4.out.size)); have HB5' := Lib.hid (HB5.out.alloc HB5.out.size (.cells #[.int .u8 (k2 : Int), .int .u8 (r2 : Int), .int .i64 l2, .int .i64 s2, .int .i64 q0, .int .i64 q1, .int .i64 q2, .int .i64 q3, .int .i64 q4, .int .i64 q5, .int .i64 q6, .int .i64 q7, .int .i64 q8, .int .i64 q9] 24)); clear hb5 a0 a1 a2 a3 a4 a5 a6 a7 a8 a9 a10 a11 a12 a13 m0 m1 m2 m3 m4 m5 m6 m7 m8 m9 m10 m11 m12 m13)
    | (go_at_call 10; (with_reducible refine (HLK.out _).mono ?_); rintro e w6 hh; obtain ⟨A6, d6, he, -, hr6, hb6⟩ := hh.got (n := n) HNN.out; obtain rfl := he; have HB6 := Lib.hid (HB5'.out.trans (hb6.mono HB5'.out.size)); have s1 := str_of (c := d6) HNN.out hr6; have s2 := str_of (c := c) HNN.out (HRD.out.below HB6.out); clear hh hb6 hr6))
  go_ret
  exact ⟨rfl, HB6.out⟩

set_option maxHeartbeats 3200000 in
set_option maxRecDepth 100000 in
theorem back00 (k r : Nat) (l s p0 p1 p2 p3 p4 p5 p6 p7 p8 p9 : Int) (b : List UInt8) (A : Option Addr) (n c : Nat) (w : World) (hk : k < 256) (hr : r < 256) (hn : b.length = n) (hc : n ≤ c) (hrd : Rd w w.heap.size A (bytesV b)) (h200 : n ≤ 200) (hR : ¬ Right (⟨k, r, l, s, [p0, p1, p2, p3, p4, p5, p6, p7, p8, p9]⟩ : Ino)) (hT : takI b = (.z, 110)) :
    Calls Try.prog 6 #[.agg #[.int .u8 (k : Int), .int .u8 (r : Int), .int .i64 l, .int .i64 s, .int .i64 p0, .int .i64 p1, .int .i64 p2, .int .i64 p3, .int .i64 p4, .int .i64 p5, .int .i64 p6, .int .i64 p7, .int .i64 p8, .int .i64 p9], .slice A n c] w fun e w' => e = .returned (.bool true) ∧ Below w.heap.size w w' := by
  have HTK : Hid (∀ (W : World) (A1 : Option Addr) (d : Nat), Rd W W.heap.size A1 (bytesV []) → 0 ≤ d → Calls Try.prog 15 #[.slice A1 0 d] W fun e w' => e = .returned (.tuple #[.agg #[.int .u8 0, .int .u8 0, .int .i64 0, .int .i64 0, .int .i64 0, .int .i64 0, .int .i64 0, .int .i64 0, .int .i64 0, .int .i64 0, .int .i64 0, .int .i64 0, .int .i64 0, .int .i64 0], .int .i64 110]) ∧ Below W.heap.size W w') := fun W A1 d h hd => by
    have := take_any [] A1 0 d W rfl h hd
    rw [takI_len (show ([] : List UInt8).length ≠ 32 by decide)] at this
    exact this
  have HLY : Hid (∀ W : World, Calls Try.prog 10 #[.agg #[.int .u8 (k : Int), .int .u8 (r : Int), .int .i64 l, .int .i64 s, .int .i64 p0, .int .i64 p1, .int .i64 p2, .int .i64 p3, .int .i64 p4, .int .i64 p5, .int .i64 p6, .int .i64 p7, .int .i64 p8, .int .i64 p9]] W fun e w' => HandsB W [] 1 e w') := fun W => by
    have := lay_ino (⟨k, r, l, s, [p0, p1, p2, p3, p4, p5, p6, p7, p8, p9]⟩ : Ino) ⟨rfl, hk, hr⟩ W
    rw [layI_no hR] at this
    exact this
  have HRT : Hid (∀ W : World, Calls Try.prog 13 #[.agg #[.int .u8 (k : Int), .int .u8 (r : Int), .int .i64 l, .int .i64 s, .int .i64 p0, .int .i64 p1, .int .i64 p2, .int .i64 p3, .int .i64 p4, .int .i64 p5, .int .i64 p6, .int .i64 p7, .int .i64 p8, .int .i64 p9]] W fun e w' => e = .returned (.bool false) ∧ Below W.heap.size W w') := fun W => by
    have := right_ten k r l s p0 p1 p2 p3 p4 p5 p6 p7 p8 p9 W hk hr
    rwa [rightB_no hR] at this
  clear hR
  have HTB : Hid (∀ W : World, Below w.heap.size w W → Calls Try.prog 15 #[.slice A n c] W fun e w' => e = .returned (.tuple #[.agg #[.int .u8 0, .int .u8 0, .int .i64 0, .int .i64 0, .int .i64 0, .int .i64 0, .int .i64 0, .int .i64 0, .int .i64 0, .int .i64 0, .int .i64 0, .int .i64 0, .int .i64 0, .int .i64 0], .int .i64 110]) ∧ Below W.heap.size W w') := fun W h => by
    have := take_any b A n c W hn ((hrd.below h).more h.size) hc
    rw [hT] at this
    exact this
  have HLK : Hid (∀ W : World, Calls Try.prog 10 #[.agg #[.int .u8 0, .int .u8 0, .int .i64 0, .int .i64 0, .int .i64 0, .int .i64 0, .int .i64 0, .int .i64 0, .int .i64 0, .int .i64 0, .int .i64 0, .int .i64 0, .int .i64 0, .int .i64 0]] W fun e w' => HandsB W (bytesI .z) 0 e w') := fun W => by
    have := lay_ino .z Oki.z W
    rw [layI_yes (.inl rfl)] at this
    exact this
  have hez : ∀ W, (binOp .eql 24 (.agg #[.int .u8 0, .int .u8 0, .int .i64 0, .int .i64 0, .int .i64 0, .int .i64 0, .int .i64 0, .int .i64 0, .int .i64 0, .int .i64 0, .int .i64 0, .int .i64 0, .int .i64 0, .int .i64 0]) (.agg #[.int .u8 0, .int .u8 0, .int .i64 0, .int .i64 0, .int .i64 0, .int .i64 0, .int .i64 0, .int .i64 0, .int .i64 0, .int .i64 0, .int .i64 0, .int .i64 0, .int .i64 0, .int .i64 0])).run Try.prog W = .ok (.bool true) W := fun W => by
    have := ino_eql W .z .z Oki.z Oki.z
    rw [decB_yes rfl] at this
    exact this
  have HLZ := Lib.hid (length_bytesI Oki.z)
  clear hT
  have hg : ∀ (x y : Operand) (xs ys : Array Value) (op : BinOp) (W : World), (eqGuard op 24 x y (.agg xs) (.agg ys)).run Try.prog W = .ok () W := fun x y xs ys op W => guard_at24 W x y xs ys op
  have HNN := Lib.hid hn
  have HRD := Lib.hid hrd
  clear hk hr hn hrd hc
  go_enter Try.func6, Try.ntmps6
  go_wp2_with (first
    | (go_at_call 12; (with_reducible refine (shown_any _).mono ?_); rintro e w1 ⟨he, hb1⟩; obtain rfl := he; obtain ⟨hk1, hb1', hs1⟩ := kept_ino hb1; obtain ⟨a0, a1, a2, a3, a4, a5, a6, a7, a8, a9, a10, a11, a12, a13⟩ := ino_cells hk1; have HK1 := Lib.hid hk1; have HB1 := Lib.hid hb1'; clear hb1 hb1' hk1)
    | (go_at_call 10; (with_reducible refine (HLY.out _).mono ?_); rintro e w2 hh; obtain ⟨A2, d2, he, hd2, hr2, hb2⟩ := hh.got (n := 0) rfl; obtain rfl := he; have HB2 := Lib.hid (HB1.out.trans (hb2.mono HB1.out.size)); have HK2 := Lib.hid (HK1.out.below hb2 HK1.out.lt); have HR2 := Lib.hid hr2; clear hh hb2 hr2 a0 a1 a2 a3 a4 a5 a6 a7 a8 a9 a10 a11 a12 a13)
    | (go_at_call 15; (with_reducible refine (HTK.out _ A2 d2 HR2.out hd2).mono ?_); rintro e w3 ⟨he, hb3⟩; obtain rfl := he; have HB3 := Lib.hid (HB2.out.trans (hb3.mono HB2.out.size)); have HK3 := Lib.hid (HK2.out.below hb3 HK2.out.lt); have hs3 := HK3.out.lt; obtain ⟨a0, a1, a2, a3, a4, a5, a6, a7, a8, a9, a10, a11, a12, a13⟩ := ino_cells HK3.out; clear hb3)
    | (go_at_call 13; (with_reducible refine (HRT.out _).mono ?_); rintro e w4 ⟨he, hb4⟩; obtain rfl := he; obtain ⟨hm4, hb4', hs4⟩ := kept_ino hb4; have HB4 := Lib.hid (HB3.out.trans (hb4'.mono HB3.out.size)); clear a0 a1 a2 a3 a4 a5 a6 a7 a8 a9 a10 a11 a12 a13; obtain ⟨a0, a1, a2, a3, a4, a5, a6, a7, a8, a9, a10, a11, a12, a13⟩ := ino_cells (HK3.out.below hb4' HK3.out.lt); obtain ⟨m0, m1, m2, m3, m4, m5, m6, m7, m8, m9, m10, m11, m12, m13⟩ := ino_cells hm4; clear hb4 hb4' hm4)
    | (go_at_call 15; (with_reducible refine (HTB.out _ HB4.out).mono ?_); rintro e w5 ⟨he, hb5⟩; obtain rfl := he; have HB5 := Lib.hid (HB4.out.trans (hb5.mono HB4.out.size)); have HB5' := Lib.hid (HB5.out.alloc HB5.out.size (.cells #[.int .u8 0, .int .u8 0, .int .i64 0, .int .i64 0, .int .i64 0, .int .i64 0, .int .i64 0, .int .i64 0, .int .i64 0, .int .i64 0, .int .i64 0, .int .i64 0, .int .i64 0, .int .i64 0] 24)); clear hb5 a0 a1 a2 a3 a4 a5 a6 a7 a8 a9 a10 a11 a12 a13 m0 m1 m2 m3 m4 m5 m6 m7 m8 m9 m10 m11 m12 m13)
    | (go_at_call 10; (with_reducible refine (HLK.out _).mono ?_); rintro e w6 hh; obtain ⟨A6, d6, he, -, hr6, hb6⟩ := hh.got (n := 32) HLZ.out; obtain rfl := he; have HB6 := Lib.hid (HB5'.out.trans (hb6.mono HB5'.out.size)); have hj6 := (kept_ino hb6).1; have hl6 := hj6.lt; obtain ⟨y0, y1, y2, y3, y4, y5, y6, y7, y8, y9, y10, y11, y12, y13⟩ := ino_cells hj6; clear hh hb6 hr6 hj6))
  go_ret
  exact ⟨rfl, HB6.out⟩

set_option maxRecDepth 100000 in
theorem back_walk (m : Ino) (ho : Oki m) (b : List UInt8) (A : Option Addr) (n c : Nat) (w : World) (hn : b.length = n) (hc : n ≤ c) (hrd : Rd w w.heap.size A (bytesV b)) :
    Calls Try.prog 6 #[inoV m, .slice A n c] w fun e w' => e = .returned (.bool true) ∧ Below w.heap.size w w' := by
  obtain ⟨k, r, l, s, p⟩ := m
  obtain ⟨p0, p1, p2, p3, p4, p5, p6, p7, p8, p9, hp⟩ := ten_of ho.len
  simp only at hp
  subst hp
  by_cases h : n ≤ 200
  · by_cases hR : Right (⟨k, r, l, s, [p0, p1, p2, p3, p4, p5, p6, p7, p8, p9]⟩ : Ino)
    · rcases tak_cases b with ⟨m, hT, ho2, hR2, hb2, h32⟩ | hT
      · obtain ⟨k2, r2, l2, s2, p2⟩ := m
        obtain ⟨q0, q1, q2, q3, q4, q5, q6, q7, q8, q9, hp2⟩ := ten_of ho2.len
        simp only at hp2
        subst hp2
        exact back11 k r l s p0 p1 p2 p3 p4 p5 p6 p7 p8 p9 b A n c w ho.k ho.r hn hc hrd h hR k2 r2 l2 s2 q0 q1 q2 q3 q4 q5 q6 q7 q8 q9 hT ho2 hR2 hb2 h32
      · exact back10 k r l s p0 p1 p2 p3 p4 p5 p6 p7 p8 p9 b A n c w ho.k ho.r hn hc hrd h hR hT
    · rcases tak_cases b with ⟨m, hT, ho2, hR2, hb2, h32⟩ | hT
      · obtain ⟨k2, r2, l2, s2, p2⟩ := m
        obtain ⟨q0, q1, q2, q3, q4, q5, q6, q7, q8, q9, hp2⟩ := ten_of ho2.len
        simp only at hp2
        subst hp2
        exact back01 k r l s p0 p1 p2 p3 p4 p5 p6 p7 p8 p9 b A n c w ho.k ho.r hn hc hrd h hR k2 r2 l2 s2 q0 q1 q2 q3 q4 q5 q6 q7 q8 q9 hT ho2 hR2 hb2 h32
      · exact back00 k r l s p0 p1 p2 p3 p4 p5 p6 p7 p8 p9 b A n c w ho.k ho.r hn hc hrd h hR hT
  · show Calls Try.prog 6 #[.agg #[.int .u8 (k : Int), .int .u8 (r : Int), .int .i64 l, .int .i64 s, .int .i64 p0, .int .i64 p1, .int .i64 p2, .int .i64 p3, .int .i64 p4, .int .i64 p5, .int .i64 p6, .int .i64 p7, .int .i64 p8, .int .i64 p9], .slice A n c] w _
    clear hn hc hrd ho
    go_enter Try.func6, Try.ntmps6
    go_wp2_with (go_at_call 12; (with_reducible refine (shown_any _).mono ?_); rintro e w1 ⟨he, hb1⟩; obtain rfl := he; obtain ⟨-, hb1', -⟩ := kept_ino hb1; have HB1 := Lib.hid hb1'; clear hb1 hb1')
    go_ret
    exact ⟨rfl, HB1.out⟩

theorem back_contract (H : Type) (enc : TypeId × Value → H) (W : World) (base : Nat) (args : Array Value) (ds gs : List (DataW H)) (before : List MemPlace)
    (hval : ∀ (j : Nat) t v, Try.f6.params[j]? = some t → args[j]? = some v → Value.okWide Try.prog W .any base t v)
    (hW : DataW.Whole enc Try.prog Try.f6.params.toList Rows.inodeBackSpec.vars false W args.toList ds gs before) :
    Calls Try.prog 6 args W fun e W' => ∃ v, e = .returned v ∧ Rows.inodeBackSpec.post enc Try.prog Try.f6 false true false false W args v W' := by
  have hW' := hW
  have hlt : ∀ x ∈ before, x.block < W.heap.size := fun x hx => hW.lt x hx
  obtain ⟨p, q, hA0, hV, rfl, _, _⟩ := hW
  have hA : DataW.TrodAll enc Try.prog W 0 (fun _ => true) true Try.f6.params.toList args.toList ds p := hA0
  rw [Try.params6] at hA hval
  obtain ⟨v0, vs0, d0, ds0, p0, q0, hargs, rfl, rfl, h0, r0⟩ := trodAll_cons hA
  obtain ⟨v1, vs1, d1, ds1, p1, q1, rfl, rfl, rfl, h1, r1⟩ := trodAll_cons r0
  obtain ⟨rfl, rfl, rfl⟩ := trodAll_nil r1
  obtain rfl : args = #[v0, v1] := by cases args; simp_all
  obtain ⟨rfl, rfl⟩ := trodVars_none hV
  clear hA0
  obtain ⟨m0, rfl, ho0⟩ := open_ino (hval 0 24 v0 rfl rfl) h0
  obtain ⟨A1, n1, c1, l1, rfl, hn1, hc1, hm1, hr1⟩ := open_bytesL Try.underlying25 Try.underlying5 cells5 (hval 1 25 v1 rfl rfl) h1 (fun x hx => hlt x (by simp [hx]))
  unfold maxLen at hm1
  refine (back_walk m0 ho0 l1 A1 n1 c1 W hn1 hc1 hr1).mono fun e W' ⟨he, hb⟩ => ?_
  subst he
  exact ⟨_, rfl, law_post laid (by kernel_rfl) Try.underlying4 (by rw [Try.params6]; decide +kernel) rfl hW' ⟨rfl, rfl, rfl⟩ hb⟩

set_option maxRecDepth 100000 in
theorem back_lifted (os : Os) (started : os.Started) (H : Type) (enc : TypeId × Value → H) :
    ReturnsInHanded {} Try.checked os 6 .any (Rows.inodeBackSpec.pre6 enc Try.prog Try.f6 Rows.inodeBackRow.domain false) (Rows.inodeBackSpec.post enc Try.prog Try.f6 false true false false) := by
  refine returnsInHanded_of_change (C := Try.checked) own started (by kernel_rfl) Try.func6
    (ChangeSpec.witness6 (enc := enc) (C := Try.checked) false ⟨#[], #[.agg #[.int .u8 0, .int .u8 0, .int .i64 0, .int .i64 0, .int .i64 0, .int .i64 0, .int .i64 0, .int .i64 0, .int .i64 0, .int .i64 0, .int .i64 0, .int .i64 0, .int .i64 0, .int .i64 0], .slice none 0 0], []⟩ 8 (by kernel_rfl) (by kernel_rfl) (by kernel_rfl) (by kernel_rfl)) ?_
  intro W base args ds gs before hval hW _ _
  exact back_contract H enc W base args ds gs before hval hW

/-- InodeBack is true for every input. -/
theorem back_holds : Rows.InodeBackSaid :=
  OpenClaim.holds_of_wide 6 Try.f6 rfl rfl rfl rfl rfl rfl rfl ⟨rfl, rfl, rfl, rfl, rfl⟩ rfl rfl rfl rfl rfl (by kernel_rfl) Try.func6 (by kernel_rfl)
    (of_decide_eq_true (by kernel_rfl)) (by unfold Func.isWrapper; first | (rw [if_pos (by decide +kernel)]; kernel_rfl) | (rw [if_neg (by decide +kernel)]; exact ⟨rfl, rfl⟩))
    (fun os started H enc _ => back_lifted os started H enc)
end Go.Proofs.Ytahpdnfnaimbnaa
