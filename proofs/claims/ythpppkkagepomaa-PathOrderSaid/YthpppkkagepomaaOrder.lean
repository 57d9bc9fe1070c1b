/-
  PathOrder: whatever the three texts (the first 1,000 bytes of each), to be under is an order, each path is under its directory's, and all are under the root.
-/
import Derived.Test.YthpppkkagepomaaO
namespace Go.Proofs.Ythpppkkagepomaa
open Go.ChangeShapes Go.WideShapes Go.ChangeAt Go.RowKit Path

theorem data_ext {a b : ByteArray} (h : a.data.toList = b.data.toList) : a = b := by
  cases a
  cases b
  simpa using h
/-- Parse answers so, and so does Split. -/
def ParA (a : ByteArray) (r : List (List UInt8) × Nat) : Prop := ∀ u : World, Calls Try.prog 9 #[.string a] u fun e w' => HandsP u r e w'
def SplA (a x y : ByteArray) (k : Int) : Prop := ∀ u : World, Calls Try.prog 12 #[.string a] u fun e w' => e = .returned (.tuple #[.string x, .string y, .int .i64 k]) ∧ Below u.heap.size u w'
def UndA (a b : ByteArray) (r : Bool) : Prop := ∀ u : World, Calls Try.prog 19 #[.string a, .string b] u fun e w' => e = .returned (.bool r) ∧ Below u.heap.size u w'
theorem par_a {a : ByteArray} {r : List (List UInt8) × Nat} (ha : a.size ≤ 1000) (h : parseP a.data.toList = r) : ParA a r := fun u => by
  have := parse_any a u (by omega)
  rwa [h] at this
theorem und_a {a b : ByteArray} {r : Bool} (ha : a.size ≤ 1000) (hb : b.size ≤ 1000) (h : underP a.data.toList b.data.toList = r) : UndA a b r := fun u => by
  have := under_any a b u (by omega) (by omega)
  rwa [h] at this
theorem spl_a {a : ByteArray} {x y : List UInt8} {k : Nat} (ha : a.size ≤ 1000) (h : splitP a.data.toList = (x, y, k)) : SplA a ⟨x.toArray⟩ ⟨y.toArray⟩ (k : Int) := fun u => by
  have := split_any a u (by omega)
  rwa [h] at this
set_option maxRecDepth 100000 in
set_option maxHeartbeats 1600000 in
theorem order_none (s t z a b c d n : ByteArray) (w : World) (hF : ∀ u : World, Calls Try.prog 10 #[.string s] u fun e w' => e = .returned (.string a) ∧ u = w') (hG : ∀ u : World, Calls Try.prog 10 #[.string t] u fun e w' => e = .returned (.string b) ∧ u = w') (hH : ∀ u : World, Calls Try.prog 10 #[.string z] u fun e w' => e = .returned (.string c) ∧ u = w')
    (HP : Hid (ParA a ([], 130))) (HS : Hid (SplA a d n 130)) (H1 : Hid (UndA a a false)) (H2 : Hid (UndA a ⟨#[47]⟩ false)) (H3 : Hid (UndA a b false)) :
    Calls Try.prog 7 #[.string s, .string t, .string z] w fun e w' => e = .returned (.bool true) ∧ Below w.heap.size w w' := by
  have HF := Lib.hid hF
  have HG := Lib.hid hG
  have HH := Lib.hid hH
  have HB := Lib.hid (Below.refl w.heap.size w)
  clear hF hG hH
  unfold ParA at HP
  unfold SplA at HS
  unfold UndA at H1 H2 H3
  go_enter Try.func7, Try.ntmps7
  go_wp2_with (first
    | (go_at_call 14; (with_reducible refine (shown_any _).mono ?_); rintro e w1 ⟨he, hb⟩; obtain rfl := he; replace HB := Lib.hid (HB.out.trans (hb.mono HB.out.size)); clear hb)
    | (go_at_call 10; (with_reducible refine (HF.out _).mono ?_); rintro e wf ⟨he, hwf⟩; obtain rfl := he; subst hwf)
    | (go_at_call 10; (with_reducible refine (HG.out _).mono ?_); rintro e wf ⟨he, hwf⟩; obtain rfl := he; subst hwf)
    | (go_at_call 10; (with_reducible refine (HH.out _).mono ?_); rintro e wf ⟨he, hwf⟩; obtain rfl := he; subst hwf)
    | (go_at_call 9; (with_reducible refine (HP.out _).mono ?_); rintro e w1 h1; obtain ⟨A1, c1, he, -, -, hb⟩ := hands_pair h1; obtain rfl := he; replace HB := Lib.hid (HB.out.trans (hb.mono HB.out.size)); clear h1 hb)
    | (go_at_call 12; (with_reducible refine (HS.out _).mono ?_); rintro e w1 ⟨he, hb⟩; obtain rfl := he; replace HB := Lib.hid (HB.out.trans (hb.mono HB.out.size)); clear hb)
    | (go_at_call 19; (with_reducible refine (H1.out _).mono ?_); rintro e w1 ⟨he, hb⟩; obtain rfl := he; replace HB := Lib.hid (HB.out.trans (hb.mono HB.out.size)); clear hb)
    | (go_at_call 19; (with_reducible refine (H2.out _).mono ?_); rintro e w1 ⟨he, hb⟩; obtain rfl := he; replace HB := Lib.hid (HB.out.trans (hb.mono HB.out.size)); clear hb)
    | (go_at_call 19; (with_reducible refine (H3.out _).mono ?_); rintro e w1 ⟨he, hb⟩; obtain rfl := he; replace HB := Lib.hid (HB.out.trans (hb.mono HB.out.size)); clear hb))
  go_ret
  exact ⟨rfl, HB.out⟩
set_option maxRecDepth 100000 in
set_option maxHeartbeats 1600000 in
theorem order_root_f (s t z a b c d n : ByteArray) (w : World) (hF : ∀ u : World, Calls Try.prog 10 #[.string s] u fun e w' => e = .returned (.string a) ∧ u = w') (hG : ∀ u : World, Calls Try.prog 10 #[.string t] u fun e w' => e = .returned (.string b) ∧ u = w') (hH : ∀ u : World, Calls Try.prog 10 #[.string z] u fun e w' => e = .returned (.string c) ∧ u = w')
    (l : List (List UInt8)) (HP : Hid (ParA a (l, 0))) (HS : Hid (SplA a d n 130)) (H1 : Hid (UndA a a true)) (H2 : Hid (UndA a ⟨#[47]⟩ true)) (H3 : Hid (UndA a b false)) :
    Calls Try.prog 7 #[.string s, .string t, .string z] w fun e w' => e = .returned (.bool true) ∧ Below w.heap.size w w' := by
  have HF := Lib.hid hF
  have HG := Lib.hid hG
  have HH := Lib.hid hH
  have HB := Lib.hid (Below.refl w.heap.size w)
  clear hF hG hH
  unfold ParA at HP
  unfold SplA at HS
  unfold UndA at H1 H2 H3
  go_enter Try.func7, Try.ntmps7
  go_wp2_with (first
    | (go_at_call 14; (with_reducible refine (shown_any _).mono ?_); rintro e w1 ⟨he, hb⟩; obtain rfl := he; replace HB := Lib.hid (HB.out.trans (hb.mono HB.out.size)); clear hb)
    | (go_at_call 10; (with_reducible refine (HF.out _).mono ?_); rintro e wf ⟨he, hwf⟩; obtain rfl := he; subst hwf)
    | (go_at_call 10; (with_reducible refine (HG.out _).mono ?_); rintro e wf ⟨he, hwf⟩; obtain rfl := he; subst hwf)
    | (go_at_call 10; (with_reducible refine (HH.out _).mono ?_); rintro e wf ⟨he, hwf⟩; obtain rfl := he; subst hwf)
    | (go_at_call 9; (with_reducible refine (HP.out _).mono ?_); rintro e w1 h1; obtain ⟨A1, c1, he, -, -, hb⟩ := hands_pair h1; obtain rfl := he; replace HB := Lib.hid (HB.out.trans (hb.mono HB.out.size)); clear h1 hb)
    | (go_at_call 12; (with_reducible refine (HS.out _).mono ?_); rintro e w1 ⟨he, hb⟩; obtain rfl := he; replace HB := Lib.hid (HB.out.trans (hb.mono HB.out.size)); clear hb)
    | (go_at_call 19; (with_reducible refine (H1.out _).mono ?_); rintro e w1 ⟨he, hb⟩; obtain rfl := he; replace HB := Lib.hid (HB.out.trans (hb.mono HB.out.size)); clear hb)
    | (go_at_call 19; (with_reducible refine (H2.out _).mono ?_); rintro e w1 ⟨he, hb⟩; obtain rfl := he; replace HB := Lib.hid (HB.out.trans (hb.mono HB.out.size)); clear hb)
    | (go_at_call 19; (with_reducible refine (H3.out _).mono ?_); rintro e w1 ⟨he, hb⟩; obtain rfl := he; replace HB := Lib.hid (HB.out.trans (hb.mono HB.out.size)); clear hb))
  go_ret
  exact ⟨rfl, HB.out⟩
set_option maxRecDepth 100000 in
set_option maxHeartbeats 1600000 in
theorem order_root_tff (s t z a b c d n : ByteArray) (w : World) (hF : ∀ u : World, Calls Try.prog 10 #[.string s] u fun e w' => e = .returned (.string a) ∧ u = w') (hG : ∀ u : World, Calls Try.prog 10 #[.string t] u fun e w' => e = .returned (.string b) ∧ u = w') (hH : ∀ u : World, Calls Try.prog 10 #[.string z] u fun e w' => e = .returned (.string c) ∧ u = w')
    (l : List (List UInt8)) (HP : Hid (ParA a (l, 0))) (HS : Hid (SplA a d n 130)) (H1 : Hid (UndA a a true)) (H2 : Hid (UndA a ⟨#[47]⟩ true)) (H3 : Hid (UndA a b true)) (H4 : Hid (UndA b c false)) (H6 : Hid (UndA b a false)) :
    Calls Try.prog 7 #[.string s, .string t, .string z] w fun e w' => e = .returned (.bool true) ∧ Below w.heap.size w w' := by
  have HF := Lib.hid hF
  have HG := Lib.hid hG
  have HH := Lib.hid hH
  have HB := Lib.hid (Below.refl w.heap.size w)
  clear hF hG hH
  unfold ParA at HP
  unfold SplA at HS
  unfold UndA at H1 H2 H3 H4 H6
  go_enter Try.func7, Try.ntmps7
  go_wp2_with (first
    | (go_at_call 14; (with_reducible refine (shown_any _).mono ?_); rintro e w1 ⟨he, hb⟩; obtain rfl := he; replace HB := Lib.hid (HB.out.trans (hb.mono HB.out.size)); clear hb)
    | (go_at_call 10; (with_reducible refine (HF.out _).mono ?_); rintro e wf ⟨he, hwf⟩; obtain rfl := he; subst hwf)
    | (go_at_call 10; (with_reducible refine (HG.out _).mono ?_); rintro e wf ⟨he, hwf⟩; obtain rfl := he; subst hwf)
    | (go_at_call 10; (with_reducible refine (HH.out _).mono ?_); rintro e wf ⟨he, hwf⟩; obtain rfl := he; subst hwf)
    | (go_at_call 9; (with_reducible refine (HP.out _).mono ?_); rintro e w1 h1; obtain ⟨A1, c1, he, -, -, hb⟩ := hands_pair h1; obtain rfl := he; replace HB := Lib.hid (HB.out.trans (hb.mono HB.out.size)); clear h1 hb)
    | (go_at_call 12; (with_reducible refine (HS.out _).mono ?_); rintro e w1 ⟨he, hb⟩; obtain rfl := he; replace HB := Lib.hid (HB.out.trans (hb.mono HB.out.size)); clear hb)
    | (go_at_call 19; (with_reducible refine (H1.out _).mono ?_); rintro e w1 ⟨he, hb⟩; obtain rfl := he; replace HB := Lib.hid (HB.out.trans (hb.mono HB.out.size)); clear hb)
    | (go_at_call 19; (with_reducible refine (H2.out _).mono ?_); rintro e w1 ⟨he, hb⟩; obtain rfl := he; replace HB := Lib.hid (HB.out.trans (hb.mono HB.out.size)); clear hb)
    | (go_at_call 19; (with_reducible refine (H3.out _).mono ?_); rintro e w1 ⟨he, hb⟩; obtain rfl := he; replace HB := Lib.hid (HB.out.trans (hb.mono HB.out.size)); clear hb)
    | (go_at_call 19; (with_reducible refine (H4.out _).mono ?_); rintro e w1 ⟨he, hb⟩; obtain rfl := he; replace HB := Lib.hid (HB.out.trans (hb.mono HB.out.size)); clear hb)
    | (go_at_call 19; (with_reducible refine (H6.out _).mono ?_); rintro e w1 ⟨he, hb⟩; obtain rfl := he; replace HB := Lib.hid (HB.out.trans (hb.mono HB.out.size)); clear hb))
  go_ret
  exact ⟨rfl, HB.out⟩
set_option maxRecDepth 100000 in
set_option maxHeartbeats 1600000 in
theorem order_root_tft (s t z a b c d n : ByteArray) (w : World) (hF : ∀ u : World, Calls Try.prog 10 #[.string s] u fun e w' => e = .returned (.string a) ∧ u = w') (hG : ∀ u : World, Calls Try.prog 10 #[.string t] u fun e w' => e = .returned (.string b) ∧ u = w') (hH : ∀ u : World, Calls Try.prog 10 #[.string z] u fun e w' => e = .returned (.string c) ∧ u = w')
    (l : List (List UInt8)) (HP : Hid (ParA a (l, 0))) (HS : Hid (SplA a d n 130)) (H1 : Hid (UndA a a true)) (H2 : Hid (UndA a ⟨#[47]⟩ true)) (H3 : Hid (UndA a b true)) (H4 : Hid (UndA b c false)) (H6 : Hid (UndA b a true)) (hab : (a.toList == b.toList) = true) :
    Calls Try.prog 7 #[.string s, .string t, .string z] w fun e w' => e = .returned (.bool true) ∧ Below w.heap.size w w' := by
  have HF := Lib.hid hF
  have HG := Lib.hid hG
  have HH := Lib.hid hH
  have HB := Lib.hid (Below.refl w.heap.size w)
  clear hF hG hH
  unfold ParA at HP
  unfold SplA at HS
  unfold UndA at H1 H2 H3 H4 H6
  go_enter Try.func7, Try.ntmps7
  go_wp2_with (first
    | (go_at_call 14; (with_reducible refine (shown_any _).mono ?_); rintro e w1 ⟨he, hb⟩; obtain rfl := he; replace HB := Lib.hid (HB.out.trans (hb.mono HB.out.size)); clear hb)
    | (go_at_call 10; (with_reducible refine (HF.out _).mono ?_); rintro e wf ⟨he, hwf⟩; obtain rfl := he; subst hwf)
    | (go_at_call 10; (with_reducible refine (HG.out _).mono ?_); rintro e wf ⟨he, hwf⟩; obtain rfl := he; subst hwf)
    | (go_at_call 10; (with_reducible refine (HH.out _).mono ?_); rintro e wf ⟨he, hwf⟩; obtain rfl := he; subst hwf)
    | (go_at_call 9; (with_reducible refine (HP.out _).mono ?_); rintro e w1 h1; obtain ⟨A1, c1, he, -, -, hb⟩ := hands_pair h1; obtain rfl := he; replace HB := Lib.hid (HB.out.trans (hb.mono HB.out.size)); clear h1 hb)
    | (go_at_call 12; (with_reducible refine (HS.out _).mono ?_); rintro e w1 ⟨he, hb⟩; obtain rfl := he; replace HB := Lib.hid (HB.out.trans (hb.mono HB.out.size)); clear hb)
    | (go_at_call 19; (with_reducible refine (H1.out _).mono ?_); rintro e w1 ⟨he, hb⟩; obtain rfl := he; replace HB := Lib.hid (HB.out.trans (hb.mono HB.out.size)); clear hb)
    | (go_at_call 19; (with_reducible refine (H2.out _).mono ?_); rintro e w1 ⟨he, hb⟩; obtain rfl := he; replace HB := Lib.hid (HB.out.trans (hb.mono HB.out.size)); clear hb)
    | (go_at_call 19; (with_reducible refine (H3.out _).mono ?_); rintro e w1 ⟨he, hb⟩; obtain rfl := he; replace HB := Lib.hid (HB.out.trans (hb.mono HB.out.size)); clear hb)
    | (go_at_call 19; (with_reducible refine (H4.out _).mono ?_); rintro e w1 ⟨he, hb⟩; obtain rfl := he; replace HB := Lib.hid (HB.out.trans (hb.mono HB.out.size)); clear hb)
    | (go_at_call 19; (with_reducible refine (H6.out _).mono ?_); rintro e w1 ⟨he, hb⟩; obtain rfl := he; replace HB := Lib.hid (HB.out.trans (hb.mono HB.out.size)); clear hb))
  go_ret
  exact ⟨rfl, HB.out⟩
set_option maxRecDepth 100000 in
set_option maxHeartbeats 1600000 in
theorem order_root_ttf (s t z a b c d n : ByteArray) (w : World) (hF : ∀ u : World, Calls Try.prog 10 #[.string s] u fun e w' => e = .returned (.string a) ∧ u = w') (hG : ∀ u : World, Calls Try.prog 10 #[.string t] u fun e w' => e = .returned (.string b) ∧ u = w') (hH : ∀ u : World, Calls Try.prog 10 #[.string z] u fun e w' => e = .returned (.string c) ∧ u = w')
    (l : List (List UInt8)) (HP : Hid (ParA a (l, 0))) (HS : Hid (SplA a d n 130)) (H1 : Hid (UndA a a true)) (H2 : Hid (UndA a ⟨#[47]⟩ true)) (H3 : Hid (UndA a b true)) (H4 : Hid (UndA b c true)) (H5 : Hid (UndA a c true)) (H6 : Hid (UndA b a false)) :
    Calls Try.prog 7 #[.string s, .string t, .string z] w fun e w' => e = .returned (.bool true) ∧ Below w.heap.size w w' := by
  have HF := Lib.hid hF
  have HG := Lib.hid hG
  have HH := Lib.hid hH
  have HB := Lib.hid (Below.refl w.heap.size w)
  clear hF hG hH
  unfold ParA at HP
  unfold SplA at HS
  unfold UndA at H1 H2 H3 H4 H5 H6
  go_enter Try.func7, Try.ntmps7
  go_wp2_with (first
    | (go_at_call 14; (with_reducible refine (shown_any _).mono ?_); rintro e w1 ⟨he, hb⟩; obtain rfl := he; replace HB := Lib.hid (HB.out.trans (hb.mono HB.out.size)); clear hb)
    | (go_at_call 10; (with_reducible refine (HF.out _).mono ?_); rintro e wf ⟨he, hwf⟩; obtain rfl := he; subst hwf)
    | (go_at_call 10; (with_reducible refine (HG.out _).mono ?_); rintro e wf ⟨he, hwf⟩; obtain rfl := he; subst hwf)
    | (go_at_call 10; (with_reducible refine (HH.out _).mono ?_); rintro e wf ⟨he, hwf⟩; obtain rfl := he; subst hwf)
    | (go_at_call 9; (with_reducible refine (HP.out _).mono ?_); rintro e w1 h1; obtain ⟨A1, c1, he, -, -, hb⟩ := hands_pair h1; obtain rfl := he; replace HB := Lib.hid (HB.out.trans (hb.mono HB.out.size)); clear h1 hb)
    | (go_at_call 12; (with_reducible refine (HS.out _).mono ?_); rintro e w1 ⟨he, hb⟩; obtain rfl := he; replace HB := Lib.hid (HB.out.trans (hb.mono HB.out.size)); clear hb)
    | (go_at_call 19; (with_reducible refine (H1.out _).mono ?_); rintro e w1 ⟨he, hb⟩; obtain rfl := he; replace HB := Lib.hid (HB.out.trans (hb.mono HB.out.size)); clear hb)
    | (go_at_call 19; (with_reducible refine (H2.out _).mono ?_); rintro e w1 ⟨he, hb⟩; obtain rfl := he; replace HB := Lib.hid (HB.out.trans (hb.mono HB.out.size)); clear hb)
    | (go_at_call 19; (with_reducible refine (H3.out _).mono ?_); rintro e w1 ⟨he, hb⟩; obtain rfl := he; replace HB := Lib.hid (HB.out.trans (hb.mono HB.out.size)); clear hb)
    | (go_at_call 19; (with_reducible refine (H4.out _).mono ?_); rintro e w1 ⟨he, hb⟩; obtain rfl := he; replace HB := Lib.hid (HB.out.trans (hb.mono HB.out.size)); clear hb)
    | (go_at_call 19; (with_reducible refine (H5.out _).mono ?_); rintro e w1 ⟨he, hb⟩; obtain rfl := he; replace HB := Lib.hid (HB.out.trans (hb.mono HB.out.size)); clear hb)
    | (go_at_call 19; (with_reducible refine (H6.out _).mono ?_); rintro e w1 ⟨he, hb⟩; obtain rfl := he; replace HB := Lib.hid (HB.out.trans (hb.mono HB.out.size)); clear hb))
  go_ret
  exact ⟨rfl, HB.out⟩
set_option maxRecDepth 100000 in
set_option maxHeartbeats 1600000 in
theorem order_root_ttt (s t z a b c d n : ByteArray) (w : World) (hF : ∀ u : World, Calls Try.prog 10 #[.string s] u fun e w' => e = .returned (.string a) ∧ u = w') (hG : ∀ u : World, Calls Try.prog 10 #[.string t] u fun e w' => e = .returned (.string b) ∧ u = w') (hH : ∀ u : World, Calls Try.prog 10 #[.string z] u fun e w' => e = .returned (.string c) ∧ u = w')
    (l : List (List UInt8)) (HP : Hid (ParA a (l, 0))) (HS : Hid (SplA a d n 130)) (H1 : Hid (UndA a a true)) (H2 : Hid (UndA a ⟨#[47]⟩ true)) (H3 : Hid (UndA a b true)) (H4 : Hid (UndA b c true)) (H5 : Hid (UndA a c true)) (H6 : Hid (UndA b a true)) (hab : (a.toList == b.toList) = true) :
    Calls Try.prog 7 #[.string s, .string t, .string z] w fun e w' => e = .returned (.bool true) ∧ Below w.heap.size w w' := by
  have HF := Lib.hid hF
  have HG := Lib.hid hG
  have HH := Lib.hid hH
  have HB := Lib.hid (Below.refl w.heap.size w)
  clear hF hG hH
  unfold ParA at HP
  unfold SplA at HS
  unfold UndA at H1 H2 H3 H4 H5 H6
  go_enter Try.func7, Try.ntmps7
  go_wp2_with (first
    | (go_at_call 14; (with_reducible refine (shown_any _).mono ?_); rintro e w1 ⟨he, hb⟩; obtain rfl := he; replace HB := Lib.hid (HB.out.trans (hb.mono HB.out.size)); clear hb)
    | (go_at_call 10; (with_reducible refine (HF.out _).mono ?_); rintro e wf ⟨he, hwf⟩; obtain rfl := he; subst hwf)
    | (go_at_call 10; (with_reducible refine (HG.out _).mono ?_); rintro e wf ⟨he, hwf⟩; obtain rfl := he; subst hwf)
    | (go_at_call 10; (with_reducible refine (HH.out _).mono ?_); rintro e wf ⟨he, hwf⟩; obtain rfl := he; subst hwf)
    | (go_at_call 9; (with_reducible refine (HP.out _).mono ?_); rintro e w1 h1; obtain ⟨A1, c1, he, -, -, hb⟩ := hands_pair h1; obtain rfl := he; replace HB := Lib.hid (HB.out.trans (hb.mono HB.out.size)); clear h1 hb)
    | (go_at_call 12; (with_reducible refine (HS.out _).mono ?_); rintro e w1 ⟨he, hb⟩; obtain rfl := he; replace HB := Lib.hid (HB.out.trans (hb.mono HB.out.size)); clear hb)
    | (go_at_call 19; (with_reducible refine (H1.out _).mono ?_); rintro e w1 ⟨he, hb⟩; obtain rfl := he; replace HB := Lib.hid (HB.out.trans (hb.mono HB.out.size)); clear hb)
    | (go_at_call 19; (with_reducible refine (H2.out _).mono ?_); rintro e w1 ⟨he, hb⟩; obtain rfl := he; replace HB := Lib.hid (HB.out.trans (hb.mono HB.out.size)); clear hb)
    | (go_at_call 19; (with_reducible refine (H3.out _).mono ?_); rintro e w1 ⟨he, hb⟩; obtain rfl := he; replace HB := Lib.hid (HB.out.trans (hb.mono HB.out.size)); clear hb)
    | (go_at_call 19; (with_reducible refine (H4.out _).mono ?_); rintro e w1 ⟨he, hb⟩; obtain rfl := he; replace HB := Lib.hid (HB.out.trans (hb.mono HB.out.size)); clear hb)
    | (go_at_call 19; (with_reducible refine (H5.out _).mono ?_); rintro e w1 ⟨he, hb⟩; obtain rfl := he; replace HB := Lib.hid (HB.out.trans (hb.mono HB.out.size)); clear hb)
    | (go_at_call 19; (with_reducible refine (H6.out _).mono ?_); rintro e w1 ⟨he, hb⟩; obtain rfl := he; replace HB := Lib.hid (HB.out.trans (hb.mono HB.out.size)); clear hb))
  go_ret
  exact ⟨rfl, HB.out⟩
set_option maxRecDepth 100000 in
set_option maxHeartbeats 1600000 in
theorem order_path_f (s t z a b c d n : ByteArray) (w : World) (hF : ∀ u : World, Calls Try.prog 10 #[.string s] u fun e w' => e = .returned (.string a) ∧ u = w') (hG : ∀ u : World, Calls Try.prog 10 #[.string t] u fun e w' => e = .returned (.string b) ∧ u = w') (hH : ∀ u : World, Calls Try.prog 10 #[.string z] u fun e w' => e = .returned (.string c) ∧ u = w')
    (l : List (List UInt8)) (HP : Hid (ParA a (l, 0))) (HS : Hid (SplA a d n 0)) (H1 : Hid (UndA a a true)) (H2 : Hid (UndA a ⟨#[47]⟩ true)) (H7 : Hid (UndA a d true)) (H8 : Hid (UndA d a false)) (H3 : Hid (UndA a b false)) :
    Calls Try.prog 7 #[.string s, .string t, .string z] w fun e w' => e = .returned (.bool true) ∧ Below w.heap.size w w' := by
  have HF := Lib.hid hF
  have HG := Lib.hid hG
  have HH := Lib.hid hH
  have HB := Lib.hid (Below.refl w.heap.size w)
  clear hF hG hH
  unfold ParA at HP
  unfold SplA at HS
  unfold UndA at H1 H2 H7 H8 H3
  go_enter Try.func7, Try.ntmps7
  go_wp2_with (first
    | (go_at_call 14; (with_reducible refine (shown_any _).mono ?_); rintro e w1 ⟨he, hb⟩; obtain rfl := he; replace HB := Lib.hid (HB.out.trans (hb.mono HB.out.size)); clear hb)
    | (go_at_call 10; (with_reducible refine (HF.out _).mono ?_); rintro e wf ⟨he, hwf⟩; obtain rfl := he; subst hwf)
    | (go_at_call 10; (with_reducible refine (HG.out _).mono ?_); rintro e wf ⟨he, hwf⟩; obtain rfl := he; subst hwf)
    | (go_at_call 10; (with_reducible refine (HH.out _).mono ?_); rintro e wf ⟨he, hwf⟩; obtain rfl := he; subst hwf)
    | (go_at_call 9; (with_reducible refine (HP.out _).mono ?_); rintro e w1 h1; obtain ⟨A1, c1, he, -, -, hb⟩ := hands_pair h1; obtain rfl := he; replace HB := Lib.hid (HB.out.trans (hb.mono HB.out.size)); clear h1 hb)
    | (go_at_call 12; (with_reducible refine (HS.out _).mono ?_); rintro e w1 ⟨he, hb⟩; obtain rfl := he; replace HB := Lib.hid (HB.out.trans (hb.mono HB.out.size)); clear hb)
    | (go_at_call 19; (with_reducible refine (H1.out _).mono ?_); rintro e w1 ⟨he, hb⟩; obtain rfl := he; replace HB := Lib.hid (HB.out.trans (hb.mono HB.out.size)); clear hb)
    | (go_at_call 19; (with_reducible refine (H2.out _).mono ?_); rintro e w1 ⟨he, hb⟩; obtain rfl := he; replace HB := Lib.hid (HB.out.trans (hb.mono HB.out.size)); clear hb)
    | (go_at_call 19; (with_reducible refine (H7.out _).mono ?_); rintro e w1 ⟨he, hb⟩; obtain rfl := he; replace HB := Lib.hid (HB.out.trans (hb.mono HB.out.size)); clear hb)
    | (go_at_call 19; (with_reducible refine (H8.out _).mono ?_); rintro e w1 ⟨he, hb⟩; obtain rfl := he; replace HB := Lib.hid (HB.out.trans (hb.mono HB.out.size)); clear hb)
    | (go_at_call 19; (with_reducible refine (H3.out _).mono ?_); rintro e w1 ⟨he, hb⟩; obtain rfl := he; replace HB := Lib.hid (HB.out.trans (hb.mono HB.out.size)); clear hb))
  go_ret
  exact ⟨rfl, HB.out⟩
set_option maxRecDepth 100000 in
set_option maxHeartbeats 1600000 in
theorem order_path_tff (s t z a b c d n : ByteArray) (w : World) (hF : ∀ u : World, Calls Try.prog 10 #[.string s] u fun e w' => e = .returned (.string a) ∧ u = w') (hG : ∀ u : World, Calls Try.prog 10 #[.string t] u fun e w' => e = .returned (.string b) ∧ u = w') (hH : ∀ u : World, Calls Try.prog 10 #[.string z] u fun e w' => e = .returned (.string c) ∧ u = w')
    (l : List (List UInt8)) (HP : Hid (ParA a (l, 0))) (HS : Hid (SplA a d n 0)) (H1 : Hid (UndA a a true)) (H2 : Hid (UndA a ⟨#[47]⟩ true)) (H7 : Hid (UndA a d true)) (H8 : Hid (UndA d a false)) (H3 : Hid (UndA a b true)) (H4 : Hid (UndA b c false)) (H6 : Hid (UndA b a false)) :
    Calls Try.prog 7 #[.string s, .string t, .string z] w fun e w' => e = .returned (.bool true) ∧ Below w.heap.size w w' := by
  have HF := Lib.hid hF
  have HG := Lib.hid hG
  have HH := Lib.hid hH
  have HB := Lib.hid (Below.refl w.heap.size w)
  clear hF hG hH
  unfold ParA at HP
  unfold SplA at HS
  unfold UndA at H1 H2 H7 H8 H3 H4 H6
  go_enter Try.func7, Try.ntmps7
  go_wp2_with (first
    | (go_at_call 14; (with_reducible refine (shown_any _).mono ?_); rintro e w1 ⟨he, hb⟩; obtain rfl := he; replace HB := Lib.hid (HB.out.trans (hb.mono HB.out.size)); clear hb)
    | (go_at_call 10; (with_reducible refine (HF.out _).mono ?_); rintro e wf ⟨he, hwf⟩; obtain rfl := he; subst hwf)
    | (go_at_call 10; (with_reducible refine (HG.out _).mono ?_); rintro e wf ⟨he, hwf⟩; obtain rfl := he; subst hwf)
    | (go_at_call 10; (with_reducible refine (HH.out _).mono ?_); rintro e wf ⟨he, hwf⟩; obtain rfl := he; subst hwf)
    | (go_at_call 9; (with_reducible refine (HP.out _).mono ?_); rintro e w1 h1; obtain ⟨A1, c1, he, -, -, hb⟩ := hands_pair h1; obtain rfl := he; replace HB := Lib.hid (HB.out.trans (hb.mono HB.out.size)); clear h1 hb)
    | (go_at_call 12; (with_reducible refine (HS.out _).mono ?_); rintro e w1 ⟨he, hb⟩; obtain rfl := he; replace HB := Lib.hid (HB.out.trans (hb.mono HB.out.size)); clear hb)
    | (go_at_call 19; (with_reducible refine (H1.out _).mono ?_); rintro e w1 ⟨he, hb⟩; obtain rfl := he; replace HB := Lib.hid (HB.out.trans (hb.mono HB.out.size)); clear hb)
    | (go_at_call 19; (with_reducible refine (H2.out _).mono ?_); rintro e w1 ⟨he, hb⟩; obtain rfl := he; replace HB := Lib.hid (HB.out.trans (hb.mono HB.out.size)); clear hb)
    | (go_at_call 19; (with_reducible refine (H7.out _).mono ?_); rintro e w1 ⟨he, hb⟩; obtain rfl := he; replace HB := Lib.hid (HB.out.trans (hb.mono HB.out.size)); clear hb)
    | (go_at_call 19; (with_reducible refine (H8.out _).mono ?_); rintro e w1 ⟨he, hb⟩; obtain rfl := he; replace HB := Lib.hid (HB.out.trans (hb.mono HB.out.size)); clear hb)
    | (go_at_call 19; (with_reducible refine (H3.out _).mono ?_); rintro e w1 ⟨he, hb⟩; obtain rfl := he; replace HB := Lib.hid (HB.out.trans (hb.mono HB.out.size)); clear hb)
    | (go_at_call 19; (with_reducible refine (H4.out _).mono ?_); rintro e w1 ⟨he, hb⟩; obtain rfl := he; replace HB := Lib.hid (HB.out.trans (hb.mono HB.out.size)); clear hb)
    | (go_at_call 19; (with_reducible refine (H6.out _).mono ?_); rintro e w1 ⟨he, hb⟩; obtain rfl := he; replace HB := Lib.hid (HB.out.trans (hb.mono HB.out.size)); clear hb))
  go_ret
  exact ⟨rfl, HB.out⟩
set_option maxRecDepth 100000 in
set_option maxHeartbeats 1600000 in
theorem order_path_tft (s t z a b c d n : ByteArray) (w : World) (hF : ∀ u : World, Calls Try.prog 10 #[.string s] u fun e w' => e = .returned (.string a) ∧ u = w') (hG : ∀ u : World, Calls Try.prog 10 #[.string t] u fun e w' => e = .returned (.string b) ∧ u = w') (hH : ∀ u : World, Calls Try.prog 10 #[.string z] u fun e w' => e = .returned (.string c) ∧ u = w')
    (l : List (List UInt8)) (HP : Hid (ParA a (l, 0))) (HS : Hid (SplA a d n 0)) (H1 : Hid (UndA a a true)) (H2 : Hid (UndA a ⟨#[47]⟩ true)) (H7 : Hid (UndA a d true)) (H8 : Hid (UndA d a false)) (H3 : Hid (UndA a b true)) (H4 : Hid (UndA b c false)) (H6 : Hid (UndA b a true)) (hab : (a.toList == b.toList) = true) :
    Calls Try.prog 7 #[.string s, .string t, .string z] w fun e w' => e = .returned (.bool true) ∧ Below w.heap.size w w' := by
  have HF := Lib.hid hF
  have HG := Lib.hid hG
  have HH := Lib.hid hH
  have HB := Lib.hid (Below.refl w.heap.size w)
  clear hF hG hH
  unfold ParA at HP
  unfold SplA at HS
  unfold UndA at H1 H2 H7 H8 H3 H4 H6
  go_enter Try.func7, Try.ntmps7
  go_wp2_with (first
    | (go_at_call 14; (with_reducible refine (shown_any _).mono ?_); rintro e w1 ⟨he, hb⟩; obtain rfl := he; replace HB := Lib.hid (HB.out.trans (hb.mono HB.out.size)); clear hb)
    | (go_at_call 10; (with_reducible refine (HF.out _).mono ?_); rintro e wf ⟨he, hwf⟩; obtain rfl := he; subst hwf)
    | (go_at_call 10; (with_reducible refine (HG.out _).mono ?_); rintro e wf ⟨he, hwf⟩; obtain rfl := he; subst hwf)
    | (go_at_call 10; (with_reducible refine (HH.out _).mono ?_); rintro e wf ⟨he, hwf⟩; obtain rfl := he; subst hwf)
    | (go_at_call 9; (with_reducible refine (HP.out _).mono ?_); rintro e w1 h1; obtain ⟨A1, c1, he, -, -, hb⟩ := hands_pair h1; obtain rfl := he; replace HB := Lib.hid (HB.out.trans (hb.mono HB.out.size)); clear h1 hb)
    | (go_at_call 12; (with_reducible refine (HS.out _).mono ?_); rintro e w1 ⟨he, hb⟩; obtain rfl := he; replace HB := Lib.hid (HB.out.trans (hb.mono HB.out.size)); clear hb)
    | (go_at_call 19; (with_reducible refine (H1.out _).mono ?_); rintro e w1 ⟨he, hb⟩; obtain rfl := he; replace HB := Lib.hid (HB.out.trans (hb.mono HB.out.size)); clear hb)
    | (go_at_call 19; (with_reducible refine (H2.out _).mono ?_); rintro e w1 ⟨he, hb⟩; obtain rfl := he; replace HB := Lib.hid (HB.out.trans (hb.mono HB.out.size)); clear hb)
    | (go_at_call 19; (with_reducible refine (H7.out _).mono ?_); rintro e w1 ⟨he, hb⟩; obtain rfl := he; replace HB := Lib.hid (HB.out.trans (hb.mono HB.out.size)); clear hb)
    | (go_at_call 19; (with_reducible refine (H8.out _).mono ?_); rintro e w1 ⟨he, hb⟩; obtain rfl := he; replace HB := Lib.hid (HB.out.trans (hb.mono HB.out.size)); clear hb)
    | (go_at_call 19; (with_reducible refine (H3.out _).mono ?_); rintro e w1 ⟨he, hb⟩; obtain rfl := he; replace HB := Lib.hid (HB.out.trans (hb.mono HB.out.size)); clear hb)
    | (go_at_call 19; (with_reducible refine (H4.out _).mono ?_); rintro e w1 ⟨he, hb⟩; obtain rfl := he; replace HB := Lib.hid (HB.out.trans (hb.mono HB.out.size)); clear hb)
    | (go_at_call 19; (with_reducible refine (H6.out _).mono ?_); rintro e w1 ⟨he, hb⟩; obtain rfl := he; replace HB := Lib.hid (HB.out.trans (hb.mono HB.out.size)); clear hb))
  go_ret
  exact ⟨rfl, HB.out⟩
set_option maxRecDepth 100000 in
set_option maxHeartbeats 1600000 in
theorem order_path_ttf (s t z a b c d n : ByteArray) (w : World) (hF : ∀ u : World, Calls Try.prog 10 #[.string s] u fun e w' => e = .returned (.string a) ∧ u = w') (hG : ∀ u : World, Calls Try.prog 10 #[.string t] u fun e w' => e = .returned (.string b) ∧ u = w') (hH : ∀ u : World, Calls Try.prog 10 #[.string z] u fun e w' => e = .returned (.string c) ∧ u = w')
    (l : List (List UInt8)) (HP : Hid (ParA a (l, 0))) (HS : Hid (SplA a d n 0)) (H1 : Hid (UndA a a true)) (H2 : Hid (UndA a ⟨#[47]⟩ true)) (H7 : Hid (UndA a d true)) (H8 : Hid (UndA d a false)) (H3 : Hid (UndA a b true)) (H4 : Hid (UndA b c true)) (H5 : Hid (UndA a c true)) (H6 : Hid (UndA b a false)) :
    Calls Try.prog 7 #[.string s, .string t, .string z] w fun e w' => e = .returned (.bool true) ∧ Below w.heap.size w w' := by
  have HF := Lib.hid hF
  have HG := Lib.hid hG
  have HH := Lib.hid hH
  have HB := Lib.hid (Below.refl w.heap.size w)
  clear hF hG hH
  unfold ParA at HP
  unfold SplA at HS
  unfold UndA at H1 H2 H7 H8 H3 H4 H5 H6
  go_enter Try.func7, Try.ntmps7
  go_wp2_with (first
    | (go_at_call 14; (with_reducible refine (shown_any _).mono ?_); rintro e w1 ⟨he, hb⟩; obtain rfl := he; replace HB := Lib.hid (HB.out.trans (hb.mono HB.out.size)); clear hb)
    | (go_at_call 10; (with_reducible refine (HF.out _).mono ?_); rintro e wf ⟨he, hwf⟩; obtain rfl := he; subst hwf)
    | (go_at_call 10; (with_reducible refine (HG.out _).mono ?_); rintro e wf ⟨he, hwf⟩; obtain rfl := he; subst hwf)
    | (go_at_call 10; (with_reducible refine (HH.out _).mono ?_); rintro e wf ⟨he, hwf⟩; obtain rfl := he; subst hwf)
    | (go_at_call 9; (with_reducible refine (HP.out _).mono ?_); rintro e w1 h1; obtain ⟨A1, c1, he, -, -, hb⟩ := hands_pair h1; obtain rfl := he; replace HB := Lib.hid (HB.out.trans (hb.mono HB.out.size)); clear h1 hb)
    | (go_at_call 12; (with_reducible refine (HS.out _).mono ?_); rintro e w1 ⟨he, hb⟩; obtain rfl := he; replace HB := Lib.hid (HB.out.trans (hb.mono HB.out.size)); clear hb)
    | (go_at_call 19; (with_reducible refine (H1.out _).mono ?_); rintro e w1 ⟨he, hb⟩; obtain rfl := he; replace HB := Lib.hid (HB.out.trans (hb.mono HB.out.size)); clear hb)
    | (go_at_call 19; (with_reducible refine (H2.out _).mono ?_); rintro e w1 ⟨he, hb⟩; obtain rfl := he; replace HB := Lib.hid (HB.out.trans (hb.mono HB.out.size)); clear hb)
    | (go_at_call 19; (with_reducible refine (H7.out _).mono ?_); rintro e w1 ⟨he, hb⟩; obtain rfl := he; replace HB := Lib.hid (HB.out.trans (hb.mono HB.out.size)); clear hb)
    | (go_at_call 19; (with_reducible refine (H8.out _).mono ?_); rintro e w1 ⟨he, hb⟩; obtain rfl := he; replace HB := Lib.hid (HB.out.trans (hb.mono HB.out.size)); clear hb)
    | (go_at_call 19; (with_reducible refine (H3.out _).mono ?_); rintro e w1 ⟨he, hb⟩; obtain rfl := he; replace HB := Lib.hid (HB.out.trans (hb.mono HB.out.size)); clear hb)
    | (go_at_call 19; (with_reducible refine (H4.out _).mono ?_); rintro e w1 ⟨he, hb⟩; obtain rfl := he; replace HB := Lib.hid (HB.out.trans (hb.mono HB.out.size)); clear hb)
    | (go_at_call 19; (with_reducible refine (H5.out _).mono ?_); rintro e w1 ⟨he, hb⟩; obtain rfl := he; replace HB := Lib.hid (HB.out.trans (hb.mono HB.out.size)); clear hb)
    | (go_at_call 19; (with_reducible refine (H6.out _).mono ?_); rintro e w1 ⟨he, hb⟩; obtain rfl := he; replace HB := Lib.hid (HB.out.trans (hb.mono HB.out.size)); clear hb))
  go_ret
  exact ⟨rfl, HB.out⟩
set_option maxRecDepth 100000 in
set_option maxHeartbeats 1600000 in
theorem order_path_ttt (s t z a b c d n : ByteArray) (w : World) (hF : ∀ u : World, Calls Try.prog 10 #[.string s] u fun e w' => e = .returned (.string a) ∧ u = w') (hG : ∀ u : World, Calls Try.prog 10 #[.string t] u fun e w' => e = .returned (.string b) ∧ u = w') (hH : ∀ u : World, Calls Try.prog 10 #[.string z] u fun e w' => e = .returned (.string c) ∧ u = w')
    (l : List (List UInt8)) (HP : Hid (ParA a (l, 0))) (HS : Hid (SplA a d n 0)) (H1 : Hid (UndA a a true)) (H2 : Hid (UndA a ⟨#[47]⟩ true)) (H7 : Hid (UndA a d true)) (H8 : Hid (UndA d a false)) (H3 : Hid (UndA a b true)) (H4 : Hid (UndA b c true)) (H5 : Hid (UndA a c true)) (H6 : Hid (UndA b a true)) (hab : (a.toList == b.toList) = true) :
    Calls Try.prog 7 #[.string s, .string t, .string z] w fun e w' => e = .returned (.bool true) ∧ Below w.heap.size w w' := by
  have HF := Lib.hid hF
  have HG := Lib.hid hG
  have HH := Lib.hid hH
  have HB := Lib.hid (Below.refl w.heap.size w)
  clear hF hG hH
  unfold ParA at HP
  unfold SplA at HS
  unfold UndA at H1 H2 H7 H8 H3 H4 H5 H6
  go_enter Try.func7, Try.ntmps7
  go_wp2_with (first
    | (go_at_call 14; (with_reducible refine (shown_any _).mono ?_); rintro e w1 ⟨he, hb⟩; obtain rfl := he; replace HB := Lib.hid (HB.out.trans (hb.mono HB.out.size)); clear hb)
    | (go_at_call 10; (with_reducible refine (HF.out _).mono ?_); rintro e wf ⟨he, hwf⟩; obtain rfl := he; subst hwf)
    | (go_at_call 10; (with_reducible refine (HG.out _).mono ?_); rintro e wf ⟨he, hwf⟩; obtain rfl := he; subst hwf)
    | (go_at_call 10; (with_reducible refine (HH.out _).mono ?_); rintro e wf ⟨he, hwf⟩; obtain rfl := he; subst hwf)
    | (go_at_call 9; (with_reducible refine (HP.out _).mono ?_); rintro e w1 h1; obtain ⟨A1, c1, he, -, -, hb⟩ := hands_pair h1; obtain rfl := he; replace HB := Lib.hid (HB.out.trans (hb.mono HB.out.size)); clear h1 hb)
    | (go_at_call 12; (with_reducible refine (HS.out _).mono ?_); rintro e w1 ⟨he, hb⟩; obtain rfl := he; replace HB := Lib.hid (HB.out.trans (hb.mono HB.out.size)); clear hb)
    | (go_at_call 19; (with_reducible refine (H1.out _).mono ?_); rintro e w1 ⟨he, hb⟩; obtain rfl := he; replace HB := Lib.hid (HB.out.trans (hb.mono HB.out.size)); clear hb)
    | (go_at_call 19; (with_reducible refine (H2.out _).mono ?_); rintro e w1 ⟨he, hb⟩; obtain rfl := he; replace HB := Lib.hid (HB.out.trans (hb.mono HB.out.size)); clear hb)
    | (go_at_call 19; (with_reducible refine (H7.out _).mono ?_); rintro e w1 ⟨he, hb⟩; obtain rfl := he; replace HB := Lib.hid (HB.out.trans (hb.mono HB.out.size)); clear hb)
    | (go_at_call 19; (with_reducible refine (H8.out _).mono ?_); rintro e w1 ⟨he, hb⟩; obtain rfl := he; replace HB := Lib.hid (HB.out.trans (hb.mono HB.out.size)); clear hb)
    | (go_at_call 19; (with_reducible refine (H3.out _).mono ?_); rintro e w1 ⟨he, hb⟩; obtain rfl := he; replace HB := Lib.hid (HB.out.trans (hb.mono HB.out.size)); clear hb)
    | (go_at_call 19; (with_reducible refine (H4.out _).mono ?_); rintro e w1 ⟨he, hb⟩; obtain rfl := he; replace HB := Lib.hid (HB.out.trans (hb.mono HB.out.size)); clear hb)
    | (go_at_call 19; (with_reducible refine (H5.out _).mono ?_); rintro e w1 ⟨he, hb⟩; obtain rfl := he; replace HB := Lib.hid (HB.out.trans (hb.mono HB.out.size)); clear hb)
    | (go_at_call 19; (with_reducible refine (H6.out _).mono ?_); rintro e w1 ⟨he, hb⟩; obtain rfl := he; replace HB := Lib.hid (HB.out.trans (hb.mono HB.out.size)); clear hb))
  go_ret
  exact ⟨rfl, HB.out⟩
theorem order_walk (s t z : ByteArray) (w : World) : Calls Try.prog 7 #[.string s, .string t, .string z] w fun e w' => e = .returned (.bool true) ∧ Below w.heap.size w w' := by
  have hF := fun u => few_any s u
  have hG := fun u => few_any t u
  have hH := fun u => few_any z u
  have ha := few_size s
  have hb := few_size t
  have hc := few_size z
  generalize fewB s = a at *
  generalize fewB t = b at *
  generalize fewB z = c at *
  have hr : (⟨#[47]⟩ : ByteArray).size ≤ 1000 := by decide
  cases hp : parP a.data.toList with
  | none =>
    refine order_none s t z a b c _ _ w hF hG hH (Lib.hid (par_a ha (parse_none hp))) (Lib.hid (spl_a ha (split_none hp))) (Lib.hid (und_a ha ha (by rw [under_refl, hp]; rfl))) (Lib.hid (und_a ha hr (by show underP _ [47] = _; rw [under_root, hp]; rfl))) (Lib.hid (und_a ha hb (under_no1 hp)))
  | some l =>
    have H1 := Lib.hid (und_a ha ha (show underP a.data.toList a.data.toList = true by rw [under_refl, hp]; rfl))
    have H2 := Lib.hid (und_a ha hr (show underP a.data.toList [47] = true by rw [under_root, hp]; rfl))
    have HP := Lib.hid (par_a ha (parse_some hp))
    have key : ∀ ab bc ac ba : Bool, underP a.data.toList b.data.toList = ab → underP b.data.toList c.data.toList = bc → underP a.data.toList c.data.toList = ac → underP b.data.toList a.data.toList = ba →
        (ab = true → bc = true → ac = true) ∧ (ab = true → ba = true → (a.toList == b.toList) = true) := by
      rintro ab bc ac ba rfl rfl rfl rfl
      refine ⟨under_trans, fun h1 h2 => ?_⟩
      rw [data_ext (under_same h1 h2)]
      simp
    have H3 : ∀ r, underP a.data.toList b.data.toList = r → Hid (UndA a b r) := fun r h => Lib.hid (und_a ha hb h)
    have H4 : ∀ r, underP b.data.toList c.data.toList = r → Hid (UndA b c r) := fun r h => Lib.hid (und_a hb hc h)
    have H5 : ∀ r, underP a.data.toList c.data.toList = r → Hid (UndA a c r) := fun r h => Lib.hid (und_a ha hc h)
    have H6 : ∀ r, underP b.data.toList a.data.toList = r → Hid (UndA b a r) := fun r h => Lib.hid (und_a hb ha h)
    obtain ⟨ab, hab⟩ : ∃ ab, underP a.data.toList b.data.toList = ab := ⟨_, rfl⟩
    obtain ⟨bc, hbc⟩ : ∃ bc, underP b.data.toList c.data.toList = bc := ⟨_, rfl⟩
    obtain ⟨ac, hac⟩ : ∃ ac, underP a.data.toList c.data.toList = ac := ⟨_, rfl⟩
    obtain ⟨ba, hba⟩ : ∃ ba, underP b.data.toList a.data.toList = ba := ⟨_, rfl⟩
    obtain ⟨k1, k2⟩ := key ab bc ac ba hab hbc hac hba
    have H3 := H3 ab hab
    have H4 := H4 bc hbc
    have H5 := H5 ac hac
    have H6 := H6 ba hba
    clear key hab hbc hac hba
    rcases snoc_or l with rfl | ⟨k, x, rfl⟩
    · have HS := Lib.hid (spl_a ha (split_root hp))
      cases ab
      · exact order_root_f s t z a b c _ _ w hF hG hH _ HP HS H1 H2 H3
      · cases bc
        · cases ba
          · exact order_root_tff s t z a b c _ _ w hF hG hH _ HP HS H1 H2 H3 H4 H6
          · exact order_root_tft s t z a b c _ _ w hF hG hH _ HP HS H1 H2 H3 H4 H6 (k2 rfl rfl)
        · obtain rfl := k1 rfl rfl
          cases ba
          · exact order_root_ttf s t z a b c _ _ w hF hG hH _ HP HS H1 H2 H3 H4 H5 H6
          · exact order_root_ttt s t z a b c _ _ w hF hG hH _ HP HS H1 H2 H3 H4 H5 H6 (k2 rfl rfl)
    · have HS := Lib.hid (spl_a ha (split_some hp))
      obtain ⟨ho, he⟩ := parP_some hp
      have hd := under_dir ho
      rw [he] at hd
      obtain ⟨d, hde⟩ : ∃ d : ByteArray, (⟨(pathB k).toArray⟩ : ByteArray) = d := ⟨_, rfl⟩
      have hdd : d.data.toList = pathB k := by rw [← hde]
      have hds : d.size ≤ 1000 := by
        have h1 := length_path (okp_init ho)
        rw [← hdd] at h1
        have h2 : d.size = d.data.toList.length := rfl
        omega
      rw [← hdd] at hd
      have H7 := Lib.hid (und_a ha hds hd.1)
      have H8 := Lib.hid (und_a hds ha hd.2)
      rw [hde] at HS
      cases ab
      · exact order_path_f s t z a b c _ _ w hF hG hH _ HP HS H1 H2 H7 H8 H3
      · cases bc
        · cases ba
          · exact order_path_tff s t z a b c _ _ w hF hG hH _ HP HS H1 H2 H7 H8 H3 H4 H6
          · exact order_path_tft s t z a b c _ _ w hF hG hH _ HP HS H1 H2 H7 H8 H3 H4 H6 (k2 rfl rfl)
        · obtain rfl := k1 rfl rfl
          cases ba
          · exact order_path_ttf s t z a b c _ _ w hF hG hH _ HP HS H1 H2 H7 H8 H3 H4 H5 H6
          · exact order_path_ttt s t z a b c _ _ w hF hG hH _ HP HS H1 H2 H7 H8 H3 H4 H5 H6 (k2 rfl rfl)

theorem order_contract (H : Type) (enc : TypeId × Value → H) (W : World) (base : Nat) (args : Array Value) (ds gs : List (DataW H)) (before : List MemPlace)
    (hval : ∀ (j : Nat) t v, Try.f7.params[j]? = some t → args[j]? = some v → Value.okWide Try.prog W .any base t v)
    (hW : DataW.Whole enc Try.prog Try.f7.params.toList Rows.pathOrderSpec.vars false W args.toList ds gs before) :
    Calls Try.prog 7 args W fun e W' => ∃ v, e = .returned v ∧ Rows.pathOrderSpec.post enc Try.prog Try.f7 false true false false W args v W' := by
  have hW' := hW
  have hlt : ∀ x ∈ before, x.block < W.heap.size := fun x hx => hW.lt x hx
  obtain ⟨p, q, hA0, hV, rfl, _, _⟩ := hW
  have hA : DataW.TrodAll enc Try.prog W 0 (fun _ => true) true Try.f7.params.toList args.toList ds p := hA0
  rw [Try.params7] at hA hval
  obtain ⟨v0, vs0, d0, ds0, p0, q0, hargs, rfl, rfl, h0, r0⟩ := trodAll_cons hA
  obtain ⟨v1, vs1, d1, ds1, p1, q1, rfl, rfl, rfl, h1, r1⟩ := trodAll_cons r0
  obtain ⟨v2, vs2, d2, ds2, p2, q2, rfl, rfl, rfl, h2, r2⟩ := trodAll_cons r1
  obtain ⟨rfl, rfl, rfl⟩ := trodAll_nil r2
  obtain rfl : args = #[v0, v1, v2] := by cases args; simp_all
  obtain ⟨rfl, rfl⟩ := trodVars_none hV
  clear hA0
  obtain ⟨s0, rfl, rfl, rfl, hs0⟩ := Go.ChangeMaps.open_string Try.underlying9 (hval 0 9 v0 rfl rfl) h0
  unfold maxLen at hs0
  obtain ⟨s1, rfl, rfl, rfl, hs1⟩ := Go.ChangeMaps.open_string Try.underlying9 (hval 1 9 v1 rfl rfl) h1
  unfold maxLen at hs1
  obtain ⟨s2, rfl, rfl, rfl, hs2⟩ := Go.ChangeMaps.open_string Try.underlying9 (hval 2 9 v2 rfl rfl) h2
  unfold maxLen at hs2
  refine (order_walk s0 s1 s2 W).mono fun e W' ⟨he, hb⟩ => ?_
  subst he
  exact ⟨_, rfl, law_post laid (by kernel_rfl) Try.underlying4 (by rw [Try.params7]; decide +kernel) rfl hW' ⟨rfl, rfl, rfl⟩ hb⟩

set_option maxRecDepth 100000 in
theorem order_lifted (os : Os) (started : os.Started) (H : Type) (enc : TypeId × Value → H) :
    ReturnsInHanded {} Try.checked os 7 .any (Rows.pathOrderSpec.pre6 enc Try.prog Try.f7 Rows.pathOrderRow.domain false) (Rows.pathOrderSpec.post enc Try.prog Try.f7 false true false false) := by
  refine returnsInHanded_of_change (C := Try.checked) own started (by kernel_rfl) Try.func7
    (ChangeSpec.witness6 (enc := enc) (C := Try.checked) false ⟨#[], #[.string .empty, .string .empty, .string .empty], []⟩ 8 (by kernel_rfl) (by kernel_rfl) (by kernel_rfl) (by kernel_rfl)) ?_
  intro W base args ds gs before hval hW _ _
  exact order_contract H enc W base args ds gs before hval hW

/-- PathOrder is true for every input. -/
theorem order_holds : Rows.PathOrderSaid :=
  OpenClaim.holds_of_wide 7 Try.f7 rfl rfl rfl rfl rfl rfl rfl ⟨rfl, rfl, rfl, rfl, rfl⟩ rfl rfl rfl rfl rfl (by kernel_rfl) Try.func7 (by kernel_rfl)
    (of_decide_eq_true (by kernel_rfl)) (by unfold Func.isWrapper; first | (rw [if_pos (by decide +kernel)]; kernel_rfl) | (rw [if_neg (by decide +kernel)]; exact ⟨rfl, rfl⟩))
    (fun os started H enc _ => order_lifted os started H enc)
end Go.Proofs.Ythpppkkagepomaa
