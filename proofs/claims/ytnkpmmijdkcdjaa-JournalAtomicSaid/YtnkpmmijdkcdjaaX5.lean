/-
  A head is read.
-/
import Derived.Test.YtnkpmmijdkcdjaaX4
namespace Go.Proofs.Ytnkpmmijdkcdjaa
open Go.RowKit
attribute [local go_sem ↓] Go.wp_at_zero Go.wp_at_succ

/-- A sector is a head. -/
def IsHead (c : Sx) (q cnt : Nat) : Prop := (c.b = headB q cnt ∧ q < 18446744073709551616 ∧ cnt < 65536) ∨ (c.b = List.replicate 64 0 ∧ q = 0 ∧ cnt = 0)
theorem IsHead.seq {c : Sx} {q cnt : Nat} (h : IsHead c q cnt) : le ((c.b.drop 0).take 8) = q := by
  rcases h with ⟨h1, h2, _⟩ | ⟨h1, h2, _⟩
  · rw [h1, headB_seq q cnt h2]
  · rw [h1, h2]; rfl
theorem IsHead.cnt {c : Sx} {q cnt : Nat} (h : IsHead c q cnt) : le ((c.b.drop 8).take 2) = cnt := by
  rcases h with ⟨h1, _, h2⟩ | ⟨h1, _, h2⟩
  · rw [h1, headB_cnt q cnt h2]
  · rw [h1, h2]; rfl
theorem IsHead.lt {c : Sx} {q cnt : Nat} (h : IsHead c q cnt) : q < 18446744073709551616 ∧ cnt < 65536 := by
  rcases h with ⟨_, h1, h2⟩ | ⟨_, h1, h2⟩
  · exact ⟨h1, h2⟩
  · omega

theorem sx_cells (c : Sx) : sx c = bytesV c.b ++ [.int .u16 (c.t : Int)] := rfl

section
variable {w : World} {S T : Nat → Prop} {bj b start n seq : Nat} {k : Dk Sx}

/-- A sector's bytes. -/
theorem jread_any (w : World) (S : Nat → Prop) (b : Nat) (k : Dk Sx) (h : IsDisk sx w S b k) (s : Nat) (c : Sx) (hc : k.now[s]? = some c) (hd : k.dead = false) :
    Calls Try.prog 26 #[.pointer (some ⟨b, 0, none⟩), .int .i64 (s : Int)] w fun e w' => e = .returned (.tuple #[.slice (some ⟨w.heap.size, 0, none⟩) 64 64, .int .i64 0]) ∧ w'.rangeAt w.heap.size 0 (bytesV c.b) ∧ w.heap.size < w'.heap.size ∧ Below w.heap.size w w' := by
  refine (read_any w S b k h s c (bytesV c.b) (.int .u16 (c.t : Int)) hc rfl (by rw [length_bytesV, c.hb]) (bytesV_one _) hd).mono ?_
  rintro e w' ⟨rfl, hB, hb⟩
  exact ⟨rfl, fun j v hj => by rw [Nat.zero_add, hB.cell]; exact hj, hB.lt, hb⟩

set_option maxHeartbeats 1600000 in
theorem readHead_any (hJ : JB w bj b start n seq) (hD : IsDisk sx w S b k) (hn3 : 3 ≤ n) (hn : n ≤ 4096) (hd : k.dead = false) (c : Sx) (hc : k.now[start]? = some c) (q cnt : Nat) (hh : IsHead c q cnt) (hr : cnt ≤ room n) :
    Calls Try.prog 28 #[.pointer (some ⟨bj, 0, none⟩)] w fun e w' => e = .returned (.tuple #[.int .u64 (q : Int), .int .i64 (cnt : Int), .int .i64 0]) ∧ Below w.heap.size w w' := by
  have c0 := hJ.cell 0
  have c1 := hJ.cell 1
  have Hlt := Lib.hid hJ.lt
  have HJ := Lib.hid hJ
  have HD := Lib.hid hD
  have Hd := Lib.hid hd
  have Hc := Lib.hid hc
  have Hh := Lib.hid hh
  have Hr := Lib.hid hr
  clear hJ hD hd hc hh hr
  go_enter Try.func28, Try.ntmps28
  go_wp2
  go_region_held3 (fun w' : World => w'.cell? ⟨bj, 0, none⟩ = some (.pointer (some ⟨b, 0, none⟩)) ∧ w'.cell? ⟨bj, 1, none⟩ = some (.int .i64 (start : Int)))
    (first | exact ⟨c0, c1⟩ | assumption)
    (first | (go_at_call 26; (refine (jread_any w.drew S b k (HD.out.keep fun _ _ => rfl) start c Hc.out Hd.out).mono ?_); rintro e w1 ⟨rfl, hr1, hlt1, hb1⟩; have HR1 := Lib.hid hr1; have Hlt1 := Lib.hid hlt1; have HB1 := Lib.hid ((Below.refl _ w).drew.trans hb1); have d0 := And.intro ((hb1.cell (p := ⟨bj, 0, none⟩) Hlt.out).trans c0) ((hb1.cell (p := ⟨bj, 1, none⟩) Hlt.out).trans c1); clear hr1 hlt1 hb1))
  clear c0 c1
  have hrd : Rd w1 w1.heap.size (some ⟨w.heap.size, 0, none⟩) (bytesV c.b) := .inr ⟨w.heap.size, 0, rfl, Hlt1.out, fun j u hu => HR1.out j u hu⟩
  have hg1 := get_ok c.b (some ⟨w.heap.size, 0, none⟩) 64 64 w1.heap.size 0 8 w1 c.hb hrd (by omega) (by omega) (by omega) (by omega) (by omega)
  have hg2 := get_ok c.b (some ⟨w.heap.size, 0, none⟩) 64 64 w1.heap.size 8 2 w1 c.hb hrd (by omega) (by omega) (by omega) (by omega) (by omega)
  rw [Hh.out.seq] at hg1
  rw [Hh.out.cnt] at hg2
  have hq := Hh.out.lt.1
  have hcn := Hh.out.lt.2
  have Hrd := Lib.hid hrd
  have G1 := Lib.hid hg1
  have G2 := Lib.hid hg2
  have hcv : IntKind.i64.wrap (cnt : Int) = (cnt : Int) := by rw [IntKind.wrap_i64]; omega
  obtain ⟨zl, hzl⟩ : ∃ zl, zl = List.replicate 64 (0 : UInt8) := ⟨_, rfl⟩
  have hzlen : zl.length = 64 := by rw [hzl]; simp
  have hmk : ∀ u : World, (Instr.makeSlice 39 (.int .i64 64) (.int .i64 64)).run Try.prog u = .ok (.slice (some ⟨u.heap.size, 0, none⟩) 64 64) (u.alloc (.cells (bytesV zl).toArray 5)) := fun u => by
    rw [hzl]; exact make_bytes 64 (by omega) u
  have hBz : Below w.heap.size w (w1.alloc (.cells (bytesV zl).toArray 5)) := HB1.out.alloc HB1.out.size _
  have Hrm := Lib.hid (fun W (hW : Below w.heap.size w W) => room_any W bj b start n seq ((hW.block bj Hlt.out).trans HJ.out) hn3 hn)
  have hz : Rd (w1.alloc (.cells (bytesV zl).toArray 5)) (w1.heap.size + 1) (some ⟨w1.heap.size, 0, none⟩) (bytesV zl) := by
    have h := (Bk.new w1 5 (bytesV zl)).rd 64 0
    rw [List.drop_zero, List.take_of_length_le (by rw [length_bytesV, hzlen]; exact Nat.le_refl _), World.size_alloc] at h
    exact h
  have Hz := Lib.hid hz
  have HBz := Lib.hid hBz
  have Hrdz : Hid (Rd (w1.alloc (.cells (bytesV zl).toArray 5)) (w1.heap.size + 1) (some ⟨w.heap.size, 0, none⟩) (bytesV c.b)) := (Hrd.out.below ((Below.refl _ w1).alloc (Nat.le_refl _) _)).more (by omega)
  have hrr : ¬ (room n : Int) < (cnt : Int) := by have := Hr.out; omega
  have Hzl := Lib.hid hzl
  have Hzlen := Lib.hid hzlen
  clear hrd hg1 hg2 hBz hz hzl hzlen
  generalize hZ : (bytesV zl).toArray = Z at *
  clear hZ
  cases hzb : (c.b == zl)
  · have hcb : c.b = headB q cnt := by
      rcases Hh.out with h | h
      · exact h.1
      · rw [h.1, Hzl.out] at hzb; simp at hzb
    have Hcb := Lib.hid hcb
    have Hzb := Lib.hid hzb
    clear hzb hcb
    go_wp2_with fail
    refine G1.out.mono ?_
    rintro e w' ⟨rfl, rfl⟩
    go_wp2_with fail
    refine G2.out.mono ?_
    rintro e w' ⟨rfl, rfl⟩
    go_wp2_with fail
    refine (equal_any c.b zl _ _ 64 64 64 64 _ _ _ c.hb Hzlen.out Hrdz.out Hz.out).mono ?_
    rintro e w' ⟨rfl, rfl⟩
    rw [Hzb.out]
    go_wp2_with fail
    refine (headOf_any q cnt hq hcn _).mono ?_
    rintro e w2 ⟨v2, rfl, hM2⟩
    obtain ⟨g2, c2, rfl, hc2, hg2, hg2', hr2⟩ := made_slice hM2 (length_headB q cnt) (by omega)
    have Hrd2 : Hid (Rd w2 w2.heap.size (some ⟨g2, 0, none⟩) (bytesV (headB q cnt))) := .inr ⟨g2, 0, rfl, hg2', fun j u hu => hr2 j u hu⟩
    have HB2 := Lib.hid (HBz.out.trans (hM2.2.mono HBz.out.size))
    have Hrd3 := Lib.hid ((Hrdz.out.more (by simp)).below hM2.2)
    clear hM2 hr2 hc2 hg2 hg2'
    go_wp2_with fail
    refine (equal_any c.b (headB q cnt) _ _ 64 64 64 c2 _ _ _ c.hb (length_headB q cnt) Hrd3.out Hrd2.out).mono ?_
    rintro e w' ⟨rfl, rfl⟩
    rw [Hcb.out, beq_self_eq_true]
    go_wp2_with (go_at_call 14; refine (Hrm.out _ HB2.out).mono ?_; rintro e w' ⟨rfl, rfl⟩)
    go_ret3
    exact ⟨rfl, HB2.out⟩
  · have Hzb := Lib.hid hzb
    clear hzb
    go_wp2_with fail
    refine G1.out.mono ?_
    rintro e w' ⟨rfl, rfl⟩
    go_wp2_with fail
    refine G2.out.mono ?_
    rintro e w' ⟨rfl, rfl⟩
    go_wp2_with fail
    refine (equal_any c.b zl _ _ 64 64 64 64 _ _ _ c.hb Hzlen.out Hrdz.out Hz.out).mono ?_
    rintro e w' ⟨rfl, rfl⟩
    rw [Hzb.out]
    go_wp2_with (go_at_call 14; refine (Hrm.out _ HBz.out).mono ?_; rintro e w' ⟨rfl, rfl⟩)
    go_ret3
    exact ⟨rfl, HBz.out⟩
end
end Go.Proofs.Ytnkpmmijdkcdjaa
