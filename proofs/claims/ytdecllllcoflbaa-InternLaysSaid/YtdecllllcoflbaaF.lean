/-
  The document's examples, as the statements show them at their head: true at every world.
-/
import Derived.Test.YtdecllllcoflbaaX9
namespace Go.Proofs.Ytdecllllcoflbaa.Intern
open Go.RowKit

theorem Hands3.got {w w' : World} {r : Res} {e : Ending} {m : List Rw} {i : Nat} (h : Hands3 w r e w') (hr : r = ⟨m, i, 0⟩) (hm : m.length = 16) :
    ∃ g c, e = .returned (.tuple #[.slice (some ⟨g, 0, none⟩) 16 c, .int .i64 (i : Int), .int .i64 0]) ∧ w'.ownsRow w.heap.size 37 2 (.slice (some ⟨g, 0, none⟩) 16 c) 16 (rowsV m) ∧ Rd w' w'.heap.size (some ⟨g, 0, none⟩) (rowsV m) ∧ Below w.heap.size w w' := by
  subst hr
  obtain ⟨v, he, hown, hb⟩ := h
  obtain ⟨A, c0, hv, _, _, hrd⟩ := own_rows hown
  rw [hm] at hown
  obtain ⟨g, c, rfl, _⟩ := own16 hown
  injection hv with h1 h2 h3
  subst h1
  exact ⟨g, c, he, hown, hrd, hb⟩
theorem Hands2.got {w w' : World} {r : Res} {e : Ending} {m : List Rw} (h : Hands2 w r e w') (hr : r = ⟨m, 0, 0⟩) (hm : m.length = 16) :
    ∃ g c, e = .returned (.tuple #[.slice (some ⟨g, 0, none⟩) 16 c, .int .i64 0]) ∧ w'.ownsRow w.heap.size 37 2 (.slice (some ⟨g, 0, none⟩) 16 c) 16 (rowsV m) ∧ Rd w' w'.heap.size (some ⟨g, 0, none⟩) (rowsV m) ∧ Below w.heap.size w w' := by
  subst hr
  obtain ⟨v, he, hown, hb⟩ := h
  obtain ⟨A, c0, hv, _, _, hrd⟩ := own_rows hown
  rw [hm] at hown
  obtain ⟨g, c, rfl, _⟩ := own16 hown
  injection hv with h1 h2 h3
  subst h1
  exact ⟨g, c, he, hown, hrd, hb⟩

theorem Hands3.nil {w w' : World} {r : Res} {e : Ending} {n : Nat} (h : Hands3 w r e w') (hr : r = .bad n) : ∃ A c, e = .returned (.tuple #[.slice A 0 c, .int .i64 0, .int .i64 (n : Int)]) ∧ Below w.heap.size w w' := by
  subst hr
  obtain ⟨v, he, hown, hb⟩ := h
  obtain ⟨A, c, rfl, _⟩ := own_rows (l := []) hown
  exact ⟨A, c, he, hb⟩
theorem Hands2.nil {w w' : World} {r : Res} {e : Ending} {n : Nat} (h : Hands2 w r e w') (hr : r = .bad n) : ∃ A c, e = .returned (.tuple #[.slice A 0 c, .int .i64 (n : Int)]) ∧ Below w.heap.size w w' := by
  subst hr
  obtain ⟨v, he, hown, hb⟩ := h
  obtain ⟨A, c, rfl, _⟩ := own_rows (l := []) hown
  exact ⟨A, c, he, hb⟩
theorem right_frees : Right frees := by
  refine ⟨rfl, fun i r h => ?_, fun i k r s h _ h1 => ?_⟩
  · simp only [frees, List.getElem?_replicate] at h
    split at h
    · injection h with h; subst h; rfl
    · cases h
  · simp only [frees, List.getElem?_replicate] at h
    split at h
    · injection h with h; subst h; exact absurd rfl h1
    · cases h
/-- The examples on paper. -/
def sh1 : List Rw := frees.set 0 ⟨2, 1⟩
def sh2 : List Rw := sh1.set 1 ⟨4, 1⟩
def sh3 : List Rw := sh2.set 0 ⟨2, 2⟩
def sh4 : List Rw := sh3.set 0 ⟨2, 1⟩
def sh5 : List Rw := sh4.set 0 .z
def sh6 : List Rw := sh5.set 0 ⟨8, 1⟩
theorem rs1 : Right sh1 := right_frees.new (a := 2) (i := 0) (by decide) (by decide)
theorem rs2 : Right sh2 := rs1.new (a := 4) (i := 1) (by decide) (by decide)
theorem rs3 : Right sh3 := rs2.more (a := 2) (i := 0) (r := ⟨2, 1⟩) (by decide) rfl (by decide)
theorem rs4 : Right sh4 := rs3.less (i := 0) (r := ⟨2, 2⟩) rfl (by decide)
theorem rs5 : Right sh5 := rs4.less (i := 0) (r := ⟨2, 1⟩) rfl (by decide)
theorem p1 : retP frees 2 = ⟨sh1, 0, 0⟩ := retP_new right_frees (by decide) (by decide)
theorem p2 : retP sh1 4 = ⟨sh2, 1, 0⟩ := retP_new rs1 (by decide) (by decide)
theorem p3 : retP sh2 2 = ⟨sh3, 0, 0⟩ := retP_more rs2 (i := 0) (r := ⟨2, 1⟩) (by decide) rfl (by decide)
theorem p4 : relP sh3 0 = ⟨sh4, 0, 0⟩ := relP_yes rs3 (i := 0) (r := ⟨2, 2⟩) rfl (by decide)
theorem p5 : relP sh4 0 = ⟨sh5, 0, 0⟩ := relP_yes rs4 (i := 0) (r := ⟨2, 1⟩) rfl (by decide)
theorem p6 : retP sh5 8 = ⟨sh6, 0, 0⟩ := retP_new rs5 (by decide) (by decide)

theorem n0 : frees.length = 16 := rfl
theorem n1 : sh1.length = 16 := rfl
theorem n2 : sh2.length = 16 := rfl
theorem n3 : sh3.length = 16 := rfl
theorem n4 : sh4.length = 16 := rfl
theorem n5 : sh5.length = 16 := rfl
theorem n6 : sh6.length = 16 := rfl
theorem i2 : (2 : Int) = ((2 : Nat) : Int) := rfl
theorem i4 : (4 : Int) = ((4 : Nat) : Int) := rfl
theorem i8 : (8 : Int) = ((8 : Nat) : Int) := rfl

/-- Retain, of sixteen rows and a label that is a word of the text. -/
theorem ret16 (l m : List Rw) (A : Option Addr) (c a i : Nat) (x : Int) (w : World) (hx : x = (a : Int)) (hr : Rd w w.heap.size A (rowsV l)) (hn : l.length = 16) (hp : retP l a = ⟨m, i, 0⟩) (hm : m.length = 16) :
    Calls Try.prog 13 #[.slice A 16 c, .int .u16 x] w fun e w' => ∃ g c, e = .returned (.tuple #[.slice (some ⟨g, 0, none⟩) 16 c, .int .i64 (i : Int), .int .i64 0]) ∧ w'.ownsRow w.heap.size 37 2 (.slice (some ⟨g, 0, none⟩) 16 c) 16 (rowsV m) ∧ Rd w' w'.heap.size (some ⟨g, 0, none⟩) (rowsV m) ∧ Below w.heap.size w w' := by
  subst hx
  exact (ret_any l A 16 c a w hn hr).mono fun _ _ h => h.got hp hm
theorem rel16 (l m : List Rw) (A : Option Addr) (c : Nat) (x : Int) (w : World) (hr : Rd w w.heap.size A (rowsV l)) (hn : l.length = 16) (hp : relP l x = ⟨m, 0, 0⟩) (hm : m.length = 16) :
    Calls Try.prog 15 #[.slice A 16 c, .int .i64 x] w fun e w' => ∃ g c, e = .returned (.tuple #[.slice (some ⟨g, 0, none⟩) 16 c, .int .i64 0]) ∧ w'.ownsRow w.heap.size 37 2 (.slice (some ⟨g, 0, none⟩) 16 c) 16 (rowsV m) ∧ Rd w' w'.heap.size (some ⟨g, 0, none⟩) (rowsV m) ∧ Below w.heap.size w w' :=
  (rel_any l A 16 c x w hn hr).mono fun _ _ h => h.got hp hm

set_option maxHeartbeats 800000 in
set_option maxRecDepth 100000 in
theorem shown_any (w : World) : Calls Try.prog 9 #[] w fun e w' => e = .returned (.bool true) ∧ Below w.heap.size w w' := by
  have R0 : Hid (∀ w : World, Rd (w.alloc (.cells (rowsV frees).toArray 37)) (w.alloc (.cells (rowsV frees).toArray 37)).heap.size (some ⟨w.heap.size, 0, none⟩) (rowsV frees)) := fun w => rd_block (Bk.new w 37 _)
  go_enter Try.func9, Try.ntmps9
  go_wp2_with (first
    | (go_at_call 24; (with_reducible refine (free_any _).mono ?_); rintro e w0 ⟨he, hw0⟩; obtain rfl := he; have HR0 := Lib.hid (show Rd w0 w0.heap.size (some ⟨w.heap.size, 0, none⟩) (rowsV frees) by (subst hw0; exact R0.out w)); have HB0 := Lib.hid (by subst hw0; exact alloc_below _ _ : Below w.heap.size w w0); clear hw0)
    | (go_at_call 13; (with_reducible refine (ret16 frees sh1 _ _ 2 0 _ _ i2 HR0.out n0 p1 n1).mono ?_); rintro e w1 ⟨g1, c1, he, ho1, hr1, hb1⟩; obtain rfl := he; have HR1 := Lib.hid hr1; have HB1 := Lib.hid (HB0.out.trans (hb1.mono HB0.out.size)); clear ho1 hr1 hb1)
    | (go_at_call 13; (with_reducible refine (ret16 sh1 sh2 _ _ 4 1 _ _ i4 HR1.out n1 p2 n2).mono ?_); rintro e w2 ⟨g2, c2, he, ho2, hr2, hb2⟩; obtain rfl := he; have HR2 := Lib.hid hr2; have HB2 := Lib.hid (HB1.out.trans (hb2.mono HB1.out.size)); clear ho2 hr2 hb2)
    | (go_at_call 13; (with_reducible refine (ret16 sh2 sh3 _ _ 2 0 _ _ i2 HR2.out n2 p3 n3).mono ?_); rintro e w3 ⟨g3, c3, he, ho3, hr3, hb3⟩; obtain rfl := he; have hc3 := (own_cells ho3 (i := 0) (r := ⟨2, 2⟩) rfl).2; have HR3 := Lib.hid hr3; have HB3 := Lib.hid (HB2.out.trans (hb3.mono HB2.out.size)); have HC3 := Lib.hid hc3; clear ho3 hr3 hb3 hc3)
    | (go_at_call 15; (with_reducible refine (rel16 sh3 sh4 _ _ _ _ HR3.out n3 p4 n4).mono ?_); rintro e w4 ⟨g4, c4, he, ho4, hr4, hb4⟩; obtain rfl := he; have HR4 := Lib.hid hr4; have HB4 := Lib.hid (HB3.out.trans (hb4.mono HB3.out.size)); have HC4 := Lib.hid ((hb4.cell HC3.out.2.2.2).trans HC3.out.1); have HG4 := Lib.hid (Nat.lt_of_lt_of_le HC3.out.2.2.2 hb4.size); clear ho4 hr4 hb4)
    | (go_at_call 15; (with_reducible refine (rel16 sh4 sh5 _ _ _ _ HR4.out n4 p5 n5).mono ?_); rintro e w5 ⟨g5, c5, he, ho5, hr5, hb5⟩; obtain rfl := he; have HR5 := Lib.hid hr5; have HB5 := Lib.hid (HB4.out.trans (hb5.mono HB4.out.size)); have HC5 := Lib.hid ((hb5.cell HG4.out).trans HC4.out); have HG5 := Lib.hid (Nat.lt_of_lt_of_le HG4.out hb5.size); clear ho5 hr5 hb5)
    | (go_at_call 13; (with_reducible refine (ret16 sh5 sh6 _ _ 8 0 _ _ i8 HR5.out n5 p6 n6).mono ?_); rintro e w6 ⟨g6, c6, he, ho6, hr6, hb6⟩; obtain rfl := he; have HB6 := Lib.hid (HB5.out.trans (hb6.mono HB5.out.size)); have hC6 : w6.cell? ⟨g3, 1, none⟩ = some (.int .i64 2) := (hb6.cell HG5.out).trans HC5.out; clear ho6 hr6 hb6))
  go_ret
  exact ⟨rfl, HB6.out⟩
end Go.Proofs.Ytdecllllcoflbaa.Intern
