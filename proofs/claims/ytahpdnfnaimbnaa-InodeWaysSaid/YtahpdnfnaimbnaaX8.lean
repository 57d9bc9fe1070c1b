/-
  Inodes as bytes: the document's Lay.
-/
import Derived.Test.YtahpdnfnaimbnaaX7
namespace Go.Proofs.Ytahpdnfnaimbnaa.Inode
open Go.RowKit

theorem rd_pair (u : World) (g : Nat) (hg : g = u.heap.size) (x y : Int) : Rd (u.alloc (.cells #[.int .i64 x, .int .i64 y] 3)) (u.alloc (.cells #[.int .i64 x, .int .i64 y] 3)).heap.size (some ⟨g, 0, none⟩) (intsV [x, y]) := by
  subst hg
  have h : Bk (u.alloc (.cells #[.int .i64 x, .int .i64 y] 3)) u.heap.size 3 (intsV [x, y]) := Bk.new u 3 _
  exact h.rd 2 0
theorem rd_dir {W : World} {g : Nat} {k r : Nat} {l s p0 p1 p2 p3 p4 p5 p6 p7 p8 p9 : Int} (h : Bk W g 24 [.int .u8 (k : Int), .int .u8 (r : Int), .int .i64 l, .int .i64 s, .int .i64 p0, .int .i64 p1, .int .i64 p2, .int .i64 p3, .int .i64 p4, .int .i64 p5, .int .i64 p6, .int .i64 p7, .int .i64 p8, .int .i64 p9]) : Rd W W.heap.size (some ⟨g, 4, none⟩) (intsV [p0, p1, p2, p3, p4, p5, p6, p7]) := h.rd 8 4
theorem glue (k r : Nat) (l s p0 p1 p2 p3 p4 p5 p6 p7 p8 p9 : Int) : ((bytesV_kr k r ++ layl 2 ([l, s].map Int.toNat)) ++ layl 2 ([p0, p1, p2, p3, p4, p5, p6, p7].map Int.toNat)) ++ layl 2 ([p8, p9].map Int.toNat) = headI (⟨k, r, l, s, [p0, p1, p2, p3, p4, p5, p6, p7, p8, p9]⟩ : Ino) := by
  unfold headI words bytesV_kr
  rw [List.append_assoc, List.append_assoc, ← layl_append, ← layl_append]
  rfl
theorem len4 (l s : Int) : (layl 2 ([l, s].map Int.toNat)).length = 4 := by rw [length_layl]; rfl
theorem len16 (p0 p1 p2 p3 p4 p5 p6 p7 : Int) : (layl 2 ([p0, p1, p2, p3, p4, p5, p6, p7].map Int.toNat)).length = 16 := by rw [length_layl]; rfl
theorem rfill32 (l : List UInt8) (A : Option Addr) (c : Nat) (w : World) (hn : l.length = 26) (hr : Rd w w.heap.size A (bytesV l)) :
    Calls Try.prog 31 #[.slice A 26 c, .int .i64 32] w fun e w' => ∃ v, e = .returned (.tuple #[v, .int .i64 0]) ∧ Made w (padl l 32) v w' := rfill_ok l A 26 c 32 w hn hr (by omega) (by omega)

set_option maxHeartbeats 1600000 in
set_option maxRecDepth 100000 in
theorem rlay_yes (k r : Nat) (l s p0 p1 p2 p3 p4 p5 p6 p7 p8 p9 : Int) (w : World) (hk : k < 256) (hr : r < 256) (hR : Right (⟨k, r, l, s, [p0, p1, p2, p3, p4, p5, p6, p7, p8, p9]⟩ : Ino)) :
    Calls Try.prog 11 #[.agg #[.int .u8 (k : Int), .int .u8 (r : Int), .int .i64 l, .int .i64 s, .int .i64 p0, .int .i64 p1, .int .i64 p2, .int .i64 p3, .int .i64 p4, .int .i64 p5, .int .i64 p6, .int .i64 p7, .int .i64 p8, .int .i64 p9]] w fun e w' => HandsB w (bytesI (⟨k, r, l, s, [p0, p1, p2, p3, p4, p5, p6, p7, p8, p9]⟩ : Ino)) 0 e w' := by
  have HR : Hid (∀ W : World, Calls Try.prog 14 #[.agg #[.int .u8 (k : Int), .int .u8 (r : Int), .int .i64 l, .int .i64 s, .int .i64 p0, .int .i64 p1, .int .i64 p2, .int .i64 p3, .int .i64 p4, .int .i64 p5, .int .i64 p6, .int .i64 p7, .int .i64 p8, .int .i64 p9]] W fun e w' => e = .returned (.bool true) ∧ Below W.heap.size W w') := fun W => by
    have := rright_ten k r l s p0 p1 p2 p3 p4 p5 p6 p7 p8 p9 W hr
    rwa [rightB_yes hR] at this
  have hsm := right_small hR
  have HN : Hid (k < 256 ∧ r < 256) := ⟨hk, hr⟩
  have HL : Hid (∀ x ∈ [l, s], 0 ≤ x ∧ x < 65536) := fun x hx => hsm x (by simp only [List.mem_cons, List.not_mem_nil, or_false] at hx ⊢; rcases hx with h | h <;> simp [h])
  have Hdir : Hid (∀ x ∈ [p0, p1, p2, p3, p4, p5, p6, p7], 0 ≤ x ∧ x < 65536) := fun x hx => hsm x (by
    have : x ∈ [p0, p1, p2, p3, p4, p5, p6, p7] ++ [p8, p9] := List.mem_append_left _ hx
    exact List.mem_cons_of_mem _ (List.mem_cons_of_mem _ this))
  have HPP : Hid (∀ x ∈ [p8, p9], 0 ≤ x ∧ x < 65536) := fun x hx => hsm x (by
    have : x ∈ [p0, p1, p2, p3, p4, p5, p6, p7] ++ [p8, p9] := List.mem_append_right _ hx
    exact List.mem_cons_of_mem _ (List.mem_cons_of_mem _ this))
  have HG := Lib.hid (glue k r l s p0 p1 p2 p3 p4 p5 p6 p7 p8 p9)
  have h4 := Lib.hid (len4 l s)
  have h4p := Lib.hid (len4 p8 p9)
  have h16 := Lib.hid (len16 p0 p1 p2 p3 p4 p5 p6 p7)
  clear hk hr hsm hR
  go_enter Try.func11, Try.ntmps11
  go_wp2_with (first
    | (go_at_call 14; (with_reducible refine (HR.out _).mono ?_); rintro e w1 ⟨he, hb1⟩; obtain rfl := he; obtain ⟨hk1, hb1', hs1⟩ := kept_ino hb1; obtain ⟨a0, a1, a2, a3, -⟩ := ino_cells hk1; have HB1 := Lib.hid hb1'; have HK1 := Lib.hid hk1; clear hb1 hb1' hk1)
    | (go_at_call 30; (with_reducible refine (two_any [l, s] (some ⟨w1.heap.size + 1, 0, none⟩) 2 2 _ rfl (rd_pair (w1.alloc (.cells #[.int .u8 (k : Int), .int .u8 (r : Int)] 5)) (w1.heap.size + 1) (by simp) l s) HL.out (by omega)).mono ?_); rintro e w2 ⟨v2, he, hown2, hb2⟩; obtain rfl := he; rw [h4.out] at hown2; obtain ⟨-, A2, c2, hv2, -, -, hr2⟩ := own_rd hown2; subst hv2; have hbk := (alloc_below (w1.alloc (.cells #[.int .u8 (k : Int), .int .u8 (r : Int)] 5)) (.cells #[.int .i64 l, .int .i64 s] 3)).trans (hb2.mono (by simp)); have HO2 := Lib.hid (own_below (own_kr2 HN.out w1) hbk); have HB2 := Lib.hid ((alloc_below w1 (.cells #[.int .u8 (k : Int), .int .u8 (r : Int)] 5)).trans (hbk.mono (by simp))); have HR2 := Lib.hid hr2; clear hown2 hb2 hr2 hbk)
    | (at_builtin; refine wpList_app5 _ rfl (.tmp 15) (.tmp 21) rfl w1.heap.size (.slice (some ⟨w1.heap.size, 0, none⟩) 2 2) 2 (bytesV_kr k r) rfl HO2.out _ A2 4 c2 (layl 2 ([l, s].map Int.toNat)) rfl h4.out HR2.out (by omega) HB2.out.size ?_; intro v3 w3 hown3 hg3; have HB3 := Lib.hid (HB2.out.grown hg3 HB2.out.size (fun q hq => (HO2.out.lt q hq).1)); have HO3 : Hid (w3.ownsRow w1.heap.size 5 1 v3 6 (bytesV (bytesV_kr k r ++ layl 2 ([l, s].map Int.toNat)))) := hown3; have HK3 := Lib.hid (HK1.out.below HB3.out hs1); have hs3 := HK3.out.lt; clear hown3 hg3)
    | (go_at_call 30; (with_reducible refine (two_any [p0, p1, p2, p3, p4, p5, p6, p7] (some ⟨w.heap.size, 4, none⟩) 8 8 _ rfl (rd_dir HK3.out) Hdir.out (by omega)).mono ?_); rintro e w4 ⟨v4, he, hown4, hb4⟩; obtain rfl := he; rw [h16.out] at hown4; obtain ⟨-, A4, c4, hv4, -, -, hr4⟩ := own_rd hown4; subst hv4; have HO4 := Lib.hid (own_below HO3.out hb4); have HB4 := Lib.hid (HB3.out.trans (hb4.mono HB3.out.size)); have HR4 := Lib.hid hr4; clear hown4 hb4 hr4)
    | (at_builtin; refine wpList_app5 _ rfl (.tmp 23) (.tmp 26) rfl w1.heap.size v3 6 (bytesV_kr k r ++ layl 2 ([l, s].map Int.toNat)) rfl HO4.out _ A4 16 c4 (layl 2 ([p0, p1, p2, p3, p4, p5, p6, p7].map Int.toNat)) rfl h16.out HR4.out (by omega) HB4.out.size ?_; intro v5 w5 hown5 hg5; have HB5 := Lib.hid (HB4.out.grown hg5 HB4.out.size (fun q hq => (HO4.out.lt q hq).1)); have HO5 : Hid (w5.ownsRow w1.heap.size 5 1 v5 22 (bytesV ((bytesV_kr k r ++ layl 2 ([l, s].map Int.toNat)) ++ layl 2 ([p0, p1, p2, p3, p4, p5, p6, p7].map Int.toNat)))) := hown5; have hk5 := HK1.out.below HB5.out hs1; have hs5 := hk5.lt; obtain ⟨-, -, -, -, -, -, -, -, -, -, -, -, d12, d13⟩ := ino_cells hk5; clear hown5 hg5 hk5)
    | (go_at_call 30; (with_reducible refine (two_any [p8, p9] (some ⟨w5.heap.size, 0, none⟩) 2 2 _ rfl (rd_pair w5 w5.heap.size rfl p8 p9) HPP.out (by omega)).mono ?_); rintro e w6 ⟨v6, he, hown6, hb6⟩; obtain rfl := he; rw [h4p.out] at hown6; obtain ⟨-, A6, c6, hv6, -, -, hr6⟩ := own_rd hown6; subst hv6; have hbk := (alloc_below w5 (.cells #[.int .i64 p8, .int .i64 p9] 3)).trans (hb6.mono (by simp)); have HO6 := Lib.hid (own_below HO5.out hbk); have HB6 := Lib.hid (HB5.out.trans (hbk.mono HB5.out.size)); have HR6 := Lib.hid hr6; clear hown6 hb6 hr6 hbk)
    | (at_builtin; refine wpList_app5 _ rfl (.tmp 28) (.tmp 34) rfl w1.heap.size v5 22 ((bytesV_kr k r ++ layl 2 ([l, s].map Int.toNat)) ++ layl 2 ([p0, p1, p2, p3, p4, p5, p6, p7].map Int.toNat)) rfl HO6.out _ A6 4 c6 (layl 2 ([p8, p9].map Int.toNat)) rfl h4p.out HR6.out (by omega) HB6.out.size ?_; intro v7 w7 hown7 hg7; have HB7 := Lib.hid (HB6.out.grown hg7 HB6.out.size (fun q hq => (HO6.out.lt q hq).1)); have hown7' : w7.ownsRow w1.heap.size 5 1 v7 26 (bytesV (((bytesV_kr k r ++ layl 2 ([l, s].map Int.toNat)) ++ layl 2 ([p0, p1, p2, p3, p4, p5, p6, p7].map Int.toNat)) ++ layl 2 ([p8, p9].map Int.toNat))) := hown7; rw [HG.out] at hown7'; obtain ⟨hl7, A7, c7, hv7, -, -, hr7⟩ := own_rd hown7'; subst hv7; have HR7 := Lib.hid hr7; have H26 := Lib.hid (show (headI (⟨k, r, l, s, [p0, p1, p2, p3, p4, p5, p6, p7, p8, p9]⟩ : Ino)).length = 26 by rw [length_bytesV] at hl7; exact hl7); clear hown7 hown7' hr7 hg7 hl7)
    | (go_at_call 31; (with_reducible refine (rfill32 (headI (⟨k, r, l, s, [p0, p1, p2, p3, p4, p5, p6, p7, p8, p9]⟩ : Ino)) A7 c7 _ H26.out HR7.out).mono ?_); rintro e w8 ⟨v8, he, hm8⟩; obtain rfl := he; have HB8 := Lib.hid (HB7.out.trans (hm8.2.mono HB7.out.size)); have HM8 := Lib.hid hm8; clear hm8))
  have h17 := HB7.out.size
  go_ret2
  exact ⟨_, rfl, own_mono HM8.out.1 (by omega), HB1.out.trans (HB8.out.mono (by omega))⟩

/-- Lay, and the document's. -/
theorem lay_ino (n : Ino) (ho : Oki n) (w : World) : Calls Try.prog 10 #[inoV n] w fun e w' => HandsB w (layI n).1 (layI n).2 e w' := by
  by_cases hR : Right n
  · rw [layI_yes hR]
    obtain ⟨k, r, l, s, p⟩ := n
    obtain ⟨p0, p1, p2, p3, p4, p5, p6, p7, p8, p9, hp⟩ := ten_of ho.len
    simp only at hp
    subst hp
    exact lay_yes k r l s p0 p1 p2 p3 p4 p5 p6 p7 p8 p9 w ho.k ho.r hR
  · rw [layI_no hR]
    obtain ⟨k, r, l, s, p⟩ := n
    obtain ⟨p0, p1, p2, p3, p4, p5, p6, p7, p8, p9, hp⟩ := ten_of ho.len
    simp only at hp
    subst hp
    exact lay_no k r l s p0 p1 p2 p3 p4 p5 p6 p7 p8 p9 w ho.k ho.r hR
theorem rlay_ino (n : Ino) (ho : Oki n) (w : World) : Calls Try.prog 11 #[inoV n] w fun e w' => HandsB w (layI n).1 (layI n).2 e w' := by
  by_cases hR : Right n
  · rw [layI_yes hR]
    obtain ⟨k, r, l, s, p⟩ := n
    obtain ⟨p0, p1, p2, p3, p4, p5, p6, p7, p8, p9, hp⟩ := ten_of ho.len
    simp only at hp
    subst hp
    exact rlay_yes k r l s p0 p1 p2 p3 p4 p5 p6 p7 p8 p9 w ho.k ho.r hR
  · rw [layI_no hR]
    obtain ⟨k, r, l, s, p⟩ := n
    obtain ⟨p0, p1, p2, p3, p4, p5, p6, p7, p8, p9, hp⟩ := ten_of ho.len
    simp only at hp
    subst hp
    exact rlay_no k r l s p0 p1 p2 p3 p4 p5 p6 p7 p8 p9 w ho.r hR
end Go.Proofs.Ytahpdnfnaimbnaa.Inode
