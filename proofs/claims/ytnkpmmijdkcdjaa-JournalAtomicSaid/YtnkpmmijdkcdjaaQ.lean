/-
  What the statements' own helpers do: a patch, the patches of an act, what twelve sectors are, the first few acts.
-/
import Derived.Test.YtnkpmmijdkcdjaaP
namespace Go.Proofs.Ytnkpmmijdkcdjaa
open Go.RowKit
attribute [local go_sem ↓] Go.wp_at_zero Go.wp_at_succ

/-- A sector that is all one byte, whose tag is that, too. -/
def cx (c : Nat) : Sx := ⟨List.replicate 64 (UInt8.ofNat c), c % 256, by simp, by omega⟩
theorem cx_bytes (c : Nat) (hc : c < 256) : bytesV (cx c).b = same c := (same_bytes c hc).symm
theorem cx_tag (c : Nat) (hc : c < 256) : (cx c).t = c := Nat.mod_eq_of_lt hc
theorem part_all (c : Nat) : part c 64 = same c := by simp only [part, same, Nat.sub_self, List.replicate_zero, List.append_nil]

set_option maxHeartbeats 800000 in
/-- A patch. -/
theorem patch_any (at_ : Int) (c : Nat) (hc : c < 256) (w : World) :
    Calls Try.prog 20 #[.int .i64 at_, .int .u8 (c : Int)] w fun e w' => ∃ g, e = .returned (.agg #[.int .i64 at_, .slice (some ⟨g, 0, none⟩) 64 64, .int .u16 (c : Int)]) ∧ w.heap.size ≤ g ∧ Bk w' g 5 (same c) ∧ Below w.heap.size w w' := by
  have hmk := run_make64
  have hcv : (c : Int) % 65536 = c := by omega
  have hB0 := (Bk.new w 49 [.int .i64 0, .slice none 0 0, .int .u16 0])
  have e1 : (w.alloc (.cells #[.int .i64 0, .slice none 0 0, .int .u16 0] 49)).heap.size = w.heap.size + 1 := by simp
  have HB0 := Lib.hid hB0
  clear hB0
  go_enter Try.func20, Try.ntmps20
  go_wp2
  go_loopw [6, 10] (fun _ i wr => ∃ j : Nat, j ≤ 64 ∧ i = .int .i64 (j : Int) ∧ Bk wr (w.heap.size + 1) 5 (part c j) ∧ Bk wr w.heap.size 49 [.int .i64 0, .slice none 0 0, .int .u16 0] ∧ Below w.heap.size w wr) (fun _ i _ => 64 - (intOf i).toNat)
  case atStart =>
    have h1 := Bk.new (w.alloc (.cells #[.int .i64 0, .slice none 0 0, .int .u16 0] 49)) 5 (same 0)
    rw [e1] at h1
    exact ⟨0, by omega, rfl, h1, HB0.out.below ((Below.refl _ _).alloc (Nat.le_refl _) _) (by rw [e1]; omega), ((Below.refl _ w).alloc (Nat.le_refl _) _).alloc (by rw [e1]; omega) _⟩
  case round =>
    obtain ⟨j, hj, rfl, hB, hR, hb⟩ := hrel
    by_cases hlt : j < 64
    · have h0 : ∃ u, wr.cell? ⟨w.heap.size + 1, j, none⟩ = some u := ⟨_, (hB.cell j).trans (List.getElem?_eq_getElem (by simp [part]; omega))⟩
      obtain ⟨u, hu⟩ := h0
      have hf := hB.frozen j
      have hB2 := hB.set j (.int .u8 (c : Int))
      rw [part_set c j hlt] at hB2
      have HB2 := Lib.hid hB2
      have HR2 : Hid (Bk (wr.setCell ⟨w.heap.size + 1, j, none⟩ (.int .u8 (c : Int))) w.heap.size 49 [.int .i64 0, .slice none 0 0, .int .u16 0]) := (Below.heap_setCell wr ⟨w.heap.size + 1, j, none⟩ _ w.heap.size (by show w.heap.size ≠ w.heap.size + 1; omega)).trans hR
      have Hb := Lib.hid (hb.setCell (p := ⟨w.heap.size + 1, j, none⟩) (by show w.heap.size ≤ w.heap.size + 1; omega) (.int .u8 (c : Int)))
      clear hB hB2 hb hR
      go_wp2
      go_roundw
      case rel => exact ⟨j + 1, by omega, by go_num, HB2.out, HR2.out, Hb.out⟩
      case measure => simp [intOf]; omega
    · obtain rfl : j = 64 := by omega
      have c0 := hR.cell 0
      have c1 := hR.cell 1
      have c2 := hR.cell 2
      have f0 := hR.frozen 0
      have f1 := hR.frozen 1
      have f2 := hR.frozen 2
      have HB := Lib.hid hB
      have Hb := Lib.hid hb
      clear hB hR hb
      go_wp2
      refine bodyPost_ret (v := .agg #[.int .i64 at_, .slice (some ⟨w.heap.size + 1, 0, none⟩) 64 64, .int .u16 (c : Int)]) (by simp [results, Try.results20, go_sem, c0, c1, c2]) rfl ⟨w.heap.size + 1, rfl, by omega, ?_, ?_⟩
      · have hg : w.heap.size + 1 ≠ w.heap.size := by omega
        have h := HB.out
        exact (((Below.heap_setCell _ _ _ _ hg).trans (Below.heap_setCell _ _ _ _ hg)).trans (Below.heap_setCell _ _ _ _ hg)).trans (by rw [part_all] at h; exact h)
      · exact ((Hb.out.setCell (p := ⟨w.heap.size, 0, none⟩) (Nat.le_refl _) _).setCell (p := ⟨w.heap.size, 1, none⟩) (Nat.le_refl _) _).setCell (p := ⟨w.heap.size, 2, none⟩) (Nat.le_refl _) _

/-- Twelve sectors' bytes. -/
def bytesOf (L : List Sx) : List UInt8 := L.flatMap (·.b)
def strOf (L : List Sx) : ByteArray := ⟨(bytesOf L).toArray⟩
theorem length_bytesOf (L : List Sx) : (bytesOf L).length = L.length * 64 := by
  induction L with
  | nil => rfl
  | cons c L ih => simp only [bytesOf, List.flatMap_cons, List.length_append, List.length_cons, c.hb] at ih ⊢; omega
theorem bytesOf_snoc (L : List Sx) (c : Sx) : bytesOf (L ++ [c]) = bytesOf L ++ c.b := by simp [bytesOf]
theorem str_append (l m : List UInt8) : (ByteArray.mk l.toArray) ++ (ByteArray.mk m.toArray) = ⟨(l ++ m).toArray⟩ := by
  apply ByteArray.ext
  simp

set_option maxHeartbeats 800000 in
theorem now_any (w : World) (S : Nat → Prop) (b : Nat) (k : Dk Sx) (h : IsDisk sx w S b k) (hd : k.dead = false) (hl : 12 ≤ k.safe.length) :
    Calls Try.prog 15 #[.pointer (some ⟨b, 0, none⟩)] w fun e w' => e = .returned (.string (strOf (k.now.take 12))) ∧ Below w.heap.size w w' := by
  have H := Lib.hid h
  have Hd := Lib.hid hd
  have hnl : 12 ≤ k.now.length := by rw [Dk.now, length_puts]; exact hl
  have Hnl := Lib.hid hnl
  clear h hd hl hnl
  go_enter Try.func15, Try.ntmps15
  go_wp2
  go_loopw [2, 3, 4, 5, 6] (fun s _ _ _ i wr => ∃ j : Nat, j ≤ 12 ∧ i = .int .i64 (j : Int) ∧ s = .string (strOf (k.now.take j)) ∧ Below w.heap.size w wr) (fun _ _ _ _ i _ => 12 - (intOf i).toNat)
  case atStart => exact ⟨0, Nat.zero_le _, rfl, rfl, Below.refl _ _⟩
  case round =>
    obtain ⟨j, hj, rfl, rfl, hb⟩ := hrel
    have Hb := Lib.hid hb
    clear hb
    by_cases hlt : j < 12
    · obtain ⟨c, hc⟩ : ∃ c, k.now[j]? = some c := ⟨_, List.getElem?_eq_getElem (by have := Hnl.out; omega)⟩
      have Hc := Lib.hid hc
      clear hc
      go_wp2_with fail
      refine (jread_any wr S b k (H.out.below Hb.out) j c Hc.out Hd.out).mono ?_
      rintro e w1 ⟨rfl, hr, hlt1, hb1⟩
      have hcv := str_of (w := w1) (B := w1.heap.size) (A := some ⟨wr.heap.size, 0, none⟩) (n := 64) (c := 64) (l := c.b) c.hb (.inr ⟨wr.heap.size, 0, rfl, hlt1, fun j u hu => hr j u hu⟩)
      have Hb1 := Lib.hid (Hb.out.trans (hb1.mono Hb.out.size))
      have hlen : (strOf (k.now.take j)).size ≤ 100000 := by
        show (bytesOf (k.now.take j)).toArray.size ≤ _
        rw [List.size_toArray, length_bytesOf, List.length_take]; omega
      have hlen2 : (ByteArray.mk c.b.toArray).size = 64 := by show c.b.toArray.size = 64; rw [List.size_toArray, c.hb]
      have hnext : Hid (strOf (k.now.take j) ++ (ByteArray.mk c.b.toArray) = strOf (k.now.take (j + 1))) := by
        show _ = _
        rw [strOf, str_append, ← bytesOf_snoc]
        obtain ⟨h1, h2⟩ := List.getElem?_eq_some_iff.1 Hc.out
        rw [List.take_succ_eq_append_getElem h1, h2]; rfl
      clear hr hlt1 hb1
      generalize strOf (k.now.take j) = s1 at *
      generalize (ByteArray.mk c.b.toArray) = s2 at *
      go_wp2
      go_roundw
      case rel => exact ⟨j + 1, by omega, by go_num, by rw [← hnext.out], Hb1.out⟩
      case measure => simp [intOf]; omega
    · obtain rfl : j = 12 := by omega
      go_wp2
      go_ret
      exact ⟨rfl, Hb.out⟩
end Go.Proofs.Ytnkpmmijdkcdjaa
