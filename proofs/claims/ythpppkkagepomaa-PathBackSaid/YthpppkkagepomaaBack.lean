/-
  PathBack: whatever the texts (the first 30, of up to 100 bytes each) and the text (the first 1,000 bytes), what was joined is parsed, what was parsed is joined so, and a path is its directory's, and the last name.
-/
import Derived.Test.YthpppkkagepomaaO
import Derived.Deep.DeepAppendRoom
namespace Go.Proofs.Ythpppkkagepomaa
open Go.ChangeShapes Go.WideShapes Go.ChangeAt Go.RowKit Path

/-- append onto an own row of strings, behind a guard. -/
theorem wpList_app9g (w : World) {ops : Array Oper} {rest : List Oper} {o : Oper} {a : Act} {Q : Exit → Act → World → Prop} (hgd : Region.wanted o (yielded ops a.tmps) = true) (s x : Operand)
    (ho : o.op = .call { callee := .builtin .append, args := #[s, x], argTypes := #[22, 22] })
    (base : Nat) (v : Value) (n : Nat) (l : List (List UInt8)) (hs : a.eval s = v) (hown : w.ownsRow base 9 1 v n (strsV l))
    (B : Nat) (A : Option Addr) (m c : Nat) (k : List (List UInt8)) (hx : a.eval x = .slice A m c) (hm : k.length = m) (hr : Rd w B A (strsV k)) (h63 : n + m ≤ 1000000) (hbase : base ≤ w.heap.size)
    (h : ∀ v' w', w'.ownsRow base 9 1 v' (n + m) (strsV (l ++ k)) → w.grownBy w' v.ownBlock → wpList Try.prog ops Q rest (a.put o.dst v') w') : wpList Try.prog ops Q (o :: rest) a w := by
  obtain ⟨i0, hi, hz0, hz1, hz2⟩ := info_parts info9
  rw [strsV_append] at h
  refine wpList_step fun K hK => ?_
  obtain ⟨v', w', hrun, h2, h3⟩ := run_app (P := Try.prog) w base 22 o.type 9 i0 _ 16 Try.underlying22 hi hz0 hz1 hz2 rfl v n _ hown B A m c _ (by rw [length_strsV, hm]) hr (strsV_one _) (by simp only [maxLen]; omega) (by omega) hbase
  rw [if_pos hgd]
  unfold Oper.wp execOp
  simp only [ho, resolve, invoke, builtin, Sem.run_bind, Sem.run_pure, Result.andThen_ok, List.map_toArray, List.map_cons, List.map_nil, hs, hx, hrun]
  exact hK _ _ (h v' w' h2 h3)

/-- What the calls answer. -/
def ParB (a : ByteArray) (r : List (List UInt8) × Nat) : Prop := ∀ u : World, Calls Try.prog 9 #[.string a] u fun e w' => HandsP u r e w'
def SplB (a x y : ByteArray) (k : Int) : Prop := ∀ u : World, Calls Try.prog 12 #[.string a] u fun e w' => e = .returned (.tuple #[.string x, .string y, .int .i64 k]) ∧ Below u.heap.size u w'
def FewB (s t : ByteArray) : Prop := ∀ u : World, Calls Try.prog 10 #[.string s] u fun e w' => e = .returned (.string t) ∧ u = w'
def SomB (w : World) (A : Option Addr) (n p c : Nat) : Prop := ∀ u : World, Below w.heap.size w u → Calls Try.prog 17 #[.slice A n c] u fun e w' => e = .returned (.slice A p c) ∧ u = w'
def JoiB (w : World) (A : Option Addr) (p c : Nat) (a : ByteArray) (k : Int) : Prop := ∀ u : World, Below w.heap.size w u → Calls Try.prog 16 #[.slice A p c] u fun e w' => e = .returned (.tuple #[.string a, .int .i64 k]) ∧ Below u.heap.size u w'
/-- Join of a list that lies anywhere. -/
def JonB (M : List (List UInt8)) (q : Nat) (a : ByteArray) : Prop := ∀ (u : World) (A : Option Addr) (c : Nat), q ≤ c → Rd u u.heap.size A (strsV M) → Calls Try.prog 16 #[.slice A q c] u fun e w' => e = .returned (.tuple #[.string a, .int .i64 0]) ∧ Below u.heap.size u w'
set_option maxRecDepth 100000 in
set_option maxHeartbeats 3200000 in
theorem back_ok_none (L : List (List UInt8)) (A : Option Addr) (n c p : Nat) (s t d X : ByteArray) (w : World) (hr : Rd w w.heap.size A (strsV L)) (hL : L.length = p) (hp30 : p ≤ 30) (HF : Hid (SomB w A n p c)) (HT : Hid (FewB s t)) (a : ByteArray) (HJ : Hid (JoiB w A p c a 0)) (HPa : Hid (ParB a (L, 0))) (b : ByteArray) (HPt : Hid (ParB t ([], 130))) (HJM : Hid (JonB [] 0 b)) (HS : Hid (SplB t d X 130)) (o : Nat) (K : List (List UInt8)) (HPd : Hid (ParB d (K, o))) :
    Calls Try.prog 6 #[.slice A n c, .string s] w fun e w' => e = .returned (.bool true) ∧ Below w.heap.size w w' := by
  unfold ParB at HPa HPt HPd
  unfold SplB at HS
  unfold FewB at HT
  unfold SomB at HF
  unfold JoiB at HJ
  unfold JonB at HJM
  have HB := Lib.hid (Below.refl w.heap.size w)
  have Hr := Lib.hid hr
  have HL := Lib.hid hL
  clear hr hL
  go_enter Try.func6, Try.ntmps6
  go_wp2_with (first
    | (go_at_call 14; (with_reducible refine (shown_any _).mono ?_); rintro e w1 ⟨he, hb⟩; obtain rfl := he; replace HB := Lib.hid (HB.out.trans (hb.mono HB.out.size)); clear hb)
    | (go_at_call 17; (with_reducible refine (HF.out _ HB.out).mono ?_); rintro e wf ⟨he, hwf⟩; obtain rfl := he; subst hwf)
    | (go_at_call 10; (with_reducible refine (HT.out _).mono ?_); rintro e wf ⟨he, hwf⟩; obtain rfl := he; subst hwf)
    | (go_at_call 16; (with_reducible refine (HJ.out _ HB.out).mono ?_); rintro e w2 ⟨he, hb⟩; obtain rfl := he; replace HB := Lib.hid (HB.out.trans (hb.mono HB.out.size)); clear hb)
    | (go_at_call 9; (with_reducible refine (HPa.out _).mono ?_); rintro e w3 h1; obtain ⟨A1, c1, he, -, hr1, hb⟩ := hands_pair h1; obtain rfl := he; rw [HL.out]; have HR1 := Lib.hid hr1; replace HB := Lib.hid (HB.out.trans (hb.mono HB.out.size)); clear h1 hr1 hb)
    | (go_at_call 15; (with_reducible refine (same_any L A1 A p c1 c _ HL.out HR1.out ((Hr.out.below HB.out).more HB.out.size) (by omega)).mono ?_); rintro e w4 ⟨he, hb⟩; obtain rfl := he; replace HB := Lib.hid (HB.out.trans (hb.mono HB.out.size)); clear hb HR1)
    | (go_at_call 9; (with_reducible refine (HPt.out _).mono ?_); rintro e w5 h1; obtain ⟨A2, c2, he, hc2, hr2, hb⟩ := hands_pair h1; obtain rfl := he; have HC2 := Lib.hid (Nat.zero_le c2); have HR2 := Lib.hid hr2; replace HB := Lib.hid (HB.out.trans (hb.mono HB.out.size)); clear h1 hr2 hc2 hb)
    | (go_at_call 16; (with_reducible refine (HJM.out _ A2 c2 HC2.out HR2.out).mono ?_); rintro e w6 ⟨he, hb⟩; obtain rfl := he; replace HR2 := Lib.hid ((HR2.out.below hb).more hb.size); replace HB := Lib.hid (HB.out.trans (hb.mono HB.out.size)); clear hb)
    | (go_at_call 12; (with_reducible refine (HS.out _).mono ?_); rintro e w7 ⟨he, hb⟩; obtain rfl := he; replace HR2 := Lib.hid ((HR2.out.below hb).more hb.size); replace HB := Lib.hid (HB.out.trans (hb.mono HB.out.size)); clear hb)
    | (go_at_call 9; (with_reducible refine (HPd.out _).mono ?_); rintro e w8 h1; obtain ⟨A3, c3, he, -, -, hb⟩ := hands_pair h1; obtain rfl := he; replace HB := Lib.hid (HB.out.trans (hb.mono HB.out.size)); clear h1 hb))
  go_ret
  exact ⟨rfl, HB.out⟩
set_option maxRecDepth 100000 in
set_option maxHeartbeats 3200000 in
theorem back_ok_root (L : List (List UInt8)) (A : Option Addr) (n c p : Nat) (s t d X : ByteArray) (w : World) (hr : Rd w w.heap.size A (strsV L)) (hL : L.length = p) (hp30 : p ≤ 30) (HF : Hid (SomB w A n p c)) (HT : Hid (FewB s t)) (a : ByteArray) (HJ : Hid (JoiB w A p c a 0)) (HPa : Hid (ParB a (L, 0))) (HPt : Hid (ParB t ([], 0))) (HJM : Hid (JonB [] 0 t)) (HS : Hid (SplB t d X 130)) (o : Nat) (K : List (List UInt8)) (HPd : Hid (ParB d (K, o))) :
    Calls Try.prog 6 #[.slice A n c, .string s] w fun e w' => e = .returned (.bool true) ∧ Below w.heap.size w w' := by
  unfold ParB at HPa HPt HPd
  unfold SplB at HS
  unfold FewB at HT
  unfold SomB at HF
  unfold JoiB at HJ
  unfold JonB at HJM
  have HB := Lib.hid (Below.refl w.heap.size w)
  have Hr := Lib.hid hr
  have HL := Lib.hid hL
  clear hr hL
  go_enter Try.func6, Try.ntmps6
  go_wp2_with (first
    | (go_at_call 14; (with_reducible refine (shown_any _).mono ?_); rintro e w1 ⟨he, hb⟩; obtain rfl := he; replace HB := Lib.hid (HB.out.trans (hb.mono HB.out.size)); clear hb)
    | (go_at_call 17; (with_reducible refine (HF.out _ HB.out).mono ?_); rintro e wf ⟨he, hwf⟩; obtain rfl := he; subst hwf)
    | (go_at_call 10; (with_reducible refine (HT.out _).mono ?_); rintro e wf ⟨he, hwf⟩; obtain rfl := he; subst hwf)
    | (go_at_call 16; (with_reducible refine (HJ.out _ HB.out).mono ?_); rintro e w2 ⟨he, hb⟩; obtain rfl := he; replace HB := Lib.hid (HB.out.trans (hb.mono HB.out.size)); clear hb)
    | (go_at_call 9; (with_reducible refine (HPa.out _).mono ?_); rintro e w3 h1; obtain ⟨A1, c1, he, -, hr1, hb⟩ := hands_pair h1; obtain rfl := he; rw [HL.out]; have HR1 := Lib.hid hr1; replace HB := Lib.hid (HB.out.trans (hb.mono HB.out.size)); clear h1 hr1 hb)
    | (go_at_call 15; (with_reducible refine (same_any L A1 A p c1 c _ HL.out HR1.out ((Hr.out.below HB.out).more HB.out.size) (by omega)).mono ?_); rintro e w4 ⟨he, hb⟩; obtain rfl := he; replace HB := Lib.hid (HB.out.trans (hb.mono HB.out.size)); clear hb HR1)
    | (go_at_call 9; (with_reducible refine (HPt.out _).mono ?_); rintro e w5 h1; obtain ⟨A2, c2, he, hc2, hr2, hb⟩ := hands_pair h1; obtain rfl := he; have HC2 := Lib.hid (Nat.zero_le c2); have HR2 := Lib.hid hr2; replace HB := Lib.hid (HB.out.trans (hb.mono HB.out.size)); clear h1 hr2 hc2 hb)
    | (go_at_call 16; (with_reducible refine (HJM.out _ A2 c2 HC2.out HR2.out).mono ?_); rintro e w6 ⟨he, hb⟩; obtain rfl := he; replace HR2 := Lib.hid ((HR2.out.below hb).more hb.size); replace HB := Lib.hid (HB.out.trans (hb.mono HB.out.size)); clear hb)
    | (go_at_call 12; (with_reducible refine (HS.out _).mono ?_); rintro e w7 ⟨he, hb⟩; obtain rfl := he; replace HR2 := Lib.hid ((HR2.out.below hb).more hb.size); replace HB := Lib.hid (HB.out.trans (hb.mono HB.out.size)); clear hb)
    | (go_at_call 9; (with_reducible refine (HPd.out _).mono ?_); rintro e w8 h1; obtain ⟨A3, c3, he, -, -, hb⟩ := hands_pair h1; obtain rfl := he; replace HB := Lib.hid (HB.out.trans (hb.mono HB.out.size)); clear h1 hb))
  go_ret
  exact ⟨rfl, HB.out⟩
set_option maxRecDepth 100000 in
set_option maxHeartbeats 3200000 in
theorem back_ok_path (L : List (List UInt8)) (A : Option Addr) (n c p : Nat) (s t d X : ByteArray) (w : World) (hr : Rd w w.heap.size A (strsV L)) (hL : L.length = p) (hp30 : p ≤ 30) (HF : Hid (SomB w A n p c)) (HT : Hid (FewB s t)) (a : ByteArray) (HJ : Hid (JoiB w A p c a 0)) (HPa : Hid (ParB a (L, 0))) (M k : List (List UInt8)) (x : List UInt8) (q : Nat) (HX : Hid (X.data.toList = x)) (HM : Hid (k ++ [x] = M)) (Hq : Hid (M.length = q)) (hq : 0 < q) (hq16 : q ≤ 16) (HPt : Hid (ParB t (M, 0))) (HJM : Hid (JonB M q t)) (HS : Hid (SplB t d X 0)) (HPd : Hid (ParB d (k, 0))) :
    Calls Try.prog 6 #[.slice A n c, .string s] w fun e w' => e = .returned (.bool true) ∧ Below w.heap.size w w' := by
  unfold ParB at HPa HPt HPd
  unfold SplB at HS
  unfold FewB at HT
  unfold SomB at HF
  unfold JoiB at HJ
  unfold JonB at HJM
  have HB := Lib.hid (Below.refl w.heap.size w)
  have Hr := Lib.hid hr
  have HL := Lib.hid hL
  clear hr hL
  have hk16 : k.length ≤ 16 := by have h1 := congrArg List.length HM.out; rw [List.length_append, List.length_singleton, Hq.out] at h1; omega
  have hqi : (0 : Int) < (q : Int) := by omega
  go_enter Try.func6, Try.ntmps6
  go_wp2_with (first
    | (go_at_call 14; (with_reducible refine (shown_any _).mono ?_); rintro e w1 ⟨he, hb⟩; obtain rfl := he; replace HB := Lib.hid (HB.out.trans (hb.mono HB.out.size)); clear hb)
    | (go_at_call 17; (with_reducible refine (HF.out _ HB.out).mono ?_); rintro e wf ⟨he, hwf⟩; obtain rfl := he; subst hwf)
    | (go_at_call 10; (with_reducible refine (HT.out _).mono ?_); rintro e wf ⟨he, hwf⟩; obtain rfl := he; subst hwf)
    | (go_at_call 16; (with_reducible refine (HJ.out _ HB.out).mono ?_); rintro e w2 ⟨he, hb⟩; obtain rfl := he; replace HB := Lib.hid (HB.out.trans (hb.mono HB.out.size)); clear hb)
    | (go_at_call 9; (with_reducible refine (HPa.out _).mono ?_); rintro e w3 h1; obtain ⟨A1, c1, he, -, hr1, hb⟩ := hands_pair h1; obtain rfl := he; rw [HL.out]; have HR1 := Lib.hid hr1; replace HB := Lib.hid (HB.out.trans (hb.mono HB.out.size)); clear h1 hr1 hb)
    | (go_at_call 15; (with_reducible refine (same_any L A1 A p c1 c _ HL.out HR1.out ((Hr.out.below HB.out).more HB.out.size) (by omega)).mono ?_); rintro e w4 ⟨he, hb⟩; obtain rfl := he; replace HB := Lib.hid (HB.out.trans (hb.mono HB.out.size)); clear hb HR1)
    | (go_at_call 9; (with_reducible refine (HPt.out _).mono ?_); rintro e w5 h1; obtain ⟨A2, c2, he, hc2, hr2, hb⟩ := hands_pair h1; obtain rfl := he; rw [Hq.out] at hc2 ⊢; have HC2 := Lib.hid hc2; have HR2 := Lib.hid hr2; replace HB := Lib.hid (HB.out.trans (hb.mono HB.out.size)); clear h1 hr2 hc2 hb)
    | (go_at_call 16; (with_reducible refine (HJM.out _ A2 c2 HC2.out HR2.out).mono ?_); rintro e w6 ⟨he, hb⟩; obtain rfl := he; replace HR2 := Lib.hid ((HR2.out.below hb).more hb.size); replace HB := Lib.hid (HB.out.trans (hb.mono HB.out.size)); clear hb)
    | (go_at_call 12; (with_reducible refine (HS.out _).mono ?_); rintro e w7 ⟨he, hb⟩; obtain rfl := he; replace HR2 := Lib.hid ((HR2.out.below hb).more hb.size); replace HB := Lib.hid (HB.out.trans (hb.mono HB.out.size)); clear hb)
    | (go_at_call 9; (with_reducible refine (HPd.out _).mono ?_); rintro e w8 ⟨v8, he, ho8, hb8⟩; obtain rfl := he; have hG : Got _ k v8 w8 := ⟨ho8, hb8⟩; obtain ⟨A3, c3, hv8⟩ := hG.slice; subst hv8; have HG := Lib.hid hG; clear ho8 hb8 hG)
    | (at_builtin; refine wpList_app9g _ (by rfl) (.tmp 114) (.tmp 116) rfl _ _ k.length k rfl (HG.out.own.alloc _) _ _ 1 1 [X.data.toList] rfl rfl (rd_one _ X 9) (by omega) (by simp; have := HG.out.below.size; omega) ?_; intro v9 w9 ho9 hg9; have hG9 := HG.out.add ho9 hg9; rw [HX.out, HM.out] at hG9; obtain ⟨A6, c6, hv9⟩ := hG9.slice; subst hv9; rw [Hq.out]; have HG9 := Lib.hid hG9; clear hG9 ho9 hg9)
    | (go_at_call 15; (with_reducible refine (same_any M A6 A2 q c6 c2 _ Hq.out HG9.out.rd ((HR2.out.below HG9.out.below).more HG9.out.below.size) (by omega)).mono ?_); rintro e w10 ⟨he, hb⟩; obtain rfl := he; replace HB := Lib.hid (HB.out.trans ((HG9.out.below.trans (hb.mono HG9.out.below.size)).mono HB.out.size)); clear hb))
  go_ret
  exact ⟨rfl, HB.out⟩
set_option maxRecDepth 100000 in
set_option maxHeartbeats 3200000 in
theorem back_no_none (L : List (List UInt8)) (A : Option Addr) (n c p : Nat) (s t d X : ByteArray) (w : World) (hr : Rd w w.heap.size A (strsV L)) (hL : L.length = p) (_ : p ≤ 30) (HF : Hid (SomB w A n p c)) (HT : Hid (FewB s t)) (HJ : Hid (JoiB w A p c ⟨#[]⟩ 130)) (HPa : Hid (ParB ⟨#[]⟩ ([], 130))) (b : ByteArray) (HPt : Hid (ParB t ([], 130))) (HJM : Hid (JonB [] 0 b)) (HS : Hid (SplB t d X 130)) (o : Nat) (K : List (List UInt8)) (HPd : Hid (ParB d (K, o))) :
    Calls Try.prog 6 #[.slice A n c, .string s] w fun e w' => e = .returned (.bool true) ∧ Below w.heap.size w w' := by
  unfold ParB at HPa HPt HPd
  unfold SplB at HS
  unfold FewB at HT
  unfold SomB at HF
  unfold JoiB at HJ
  unfold JonB at HJM
  have HB := Lib.hid (Below.refl w.heap.size w)
  have Hr := Lib.hid hr
  have HL := Lib.hid hL
  clear hr hL
  go_enter Try.func6, Try.ntmps6
  go_wp2_with (first
    | (go_at_call 14; (with_reducible refine (shown_any _).mono ?_); rintro e w1 ⟨he, hb⟩; obtain rfl := he; replace HB := Lib.hid (HB.out.trans (hb.mono HB.out.size)); clear hb)
    | (go_at_call 17; (with_reducible refine (HF.out _ HB.out).mono ?_); rintro e wf ⟨he, hwf⟩; obtain rfl := he; subst hwf)
    | (go_at_call 10; (with_reducible refine (HT.out _).mono ?_); rintro e wf ⟨he, hwf⟩; obtain rfl := he; subst hwf)
    | (go_at_call 16; (with_reducible refine (HJ.out _ HB.out).mono ?_); rintro e w2 ⟨he, hb⟩; obtain rfl := he; replace HB := Lib.hid (HB.out.trans (hb.mono HB.out.size)); clear hb)
    | (go_at_call 9; (with_reducible refine (HPa.out _).mono ?_); rintro e w3 h1; obtain ⟨A1, c1, he, -, -, hb⟩ := hands_pair h1; obtain rfl := he; replace HB := Lib.hid (HB.out.trans (hb.mono HB.out.size)); clear h1 hb)
    | (go_at_call 9; (with_reducible refine (HPt.out _).mono ?_); rintro e w5 h1; obtain ⟨A2, c2, he, hc2, hr2, hb⟩ := hands_pair h1; obtain rfl := he; have HC2 := Lib.hid (Nat.zero_le c2); have HR2 := Lib.hid hr2; replace HB := Lib.hid (HB.out.trans (hb.mono HB.out.size)); clear h1 hr2 hc2 hb)
    | (go_at_call 16; (with_reducible refine (HJM.out _ A2 c2 HC2.out HR2.out).mono ?_); rintro e w6 ⟨he, hb⟩; obtain rfl := he; replace HR2 := Lib.hid ((HR2.out.below hb).more hb.size); replace HB := Lib.hid (HB.out.trans (hb.mono HB.out.size)); clear hb)
    | (go_at_call 12; (with_reducible refine (HS.out _).mono ?_); rintro e w7 ⟨he, hb⟩; obtain rfl := he; replace HR2 := Lib.hid ((HR2.out.below hb).more hb.size); replace HB := Lib.hid (HB.out.trans (hb.mono HB.out.size)); clear hb)
    | (go_at_call 9; (with_reducible refine (HPd.out _).mono ?_); rintro e w8 h1; obtain ⟨A3, c3, he, -, -, hb⟩ := hands_pair h1; obtain rfl := he; replace HB := Lib.hid (HB.out.trans (hb.mono HB.out.size)); clear h1 hb))
  go_ret
  exact ⟨rfl, HB.out⟩
set_option maxRecDepth 100000 in
set_option maxHeartbeats 3200000 in
theorem back_no_root (L : List (List UInt8)) (A : Option Addr) (n c p : Nat) (s t d X : ByteArray) (w : World) (hr : Rd w w.heap.size A (strsV L)) (hL : L.length = p) (_ : p ≤ 30) (HF : Hid (SomB w A n p c)) (HT : Hid (FewB s t)) (HJ : Hid (JoiB w A p c ⟨#[]⟩ 130)) (HPa : Hid (ParB ⟨#[]⟩ ([], 130))) (HPt : Hid (ParB t ([], 0))) (HJM : Hid (JonB [] 0 t)) (HS : Hid (SplB t d X 130)) (o : Nat) (K : List (List UInt8)) (HPd : Hid (ParB d (K, o))) :
    Calls Try.prog 6 #[.slice A n c, .string s] w fun e w' => e = .returned (.bool true) ∧ Below w.heap.size w w' := by
  unfold ParB at HPa HPt HPd
  unfold SplB at HS
  unfold FewB at HT
  unfold SomB at HF
  unfold JoiB at HJ
  unfold JonB at HJM
  have HB := Lib.hid (Below.refl w.heap.size w)
  have Hr := Lib.hid hr
  have HL := Lib.hid hL
  clear hr hL
  go_enter Try.func6, Try.ntmps6
  go_wp2_with (first
    | (go_at_call 14; (with_reducible refine (shown_any _).mono ?_); rintro e w1 ⟨he, hb⟩; obtain rfl := he; replace HB := Lib.hid (HB.out.trans (hb.mono HB.out.size)); clear hb)
    | (go_at_call 17; (with_reducible refine (HF.out _ HB.out).mono ?_); rintro e wf ⟨he, hwf⟩; obtain rfl := he; subst hwf)
    | (go_at_call 10; (with_reducible refine (HT.out _).mono ?_); rintro e wf ⟨he, hwf⟩; obtain rfl := he; subst hwf)
    | (go_at_call 16; (with_reducible refine (HJ.out _ HB.out).mono ?_); rintro e w2 ⟨he, hb⟩; obtain rfl := he; replace HB := Lib.hid (HB.out.trans (hb.mono HB.out.size)); clear hb)
    | (go_at_call 9; (with_reducible refine (HPa.out _).mono ?_); rintro e w3 h1; obtain ⟨A1, c1, he, -, -, hb⟩ := hands_pair h1; obtain rfl := he; replace HB := Lib.hid (HB.out.trans (hb.mono HB.out.size)); clear h1 hb)
    | (go_at_call 9; (with_reducible refine (HPt.out _).mono ?_); rintro e w5 h1; obtain ⟨A2, c2, he, hc2, hr2, hb⟩ := hands_pair h1; obtain rfl := he; have HC2 := Lib.hid (Nat.zero_le c2); have HR2 := Lib.hid hr2; replace HB := Lib.hid (HB.out.trans (hb.mono HB.out.size)); clear h1 hr2 hc2 hb)
    | (go_at_call 16; (with_reducible refine (HJM.out _ A2 c2 HC2.out HR2.out).mono ?_); rintro e w6 ⟨he, hb⟩; obtain rfl := he; replace HR2 := Lib.hid ((HR2.out.below hb).more hb.size); replace HB := Lib.hid (HB.out.trans (hb.mono HB.out.size)); clear hb)
    | (go_at_call 12; (with_reducible refine (HS.out _).mono ?_); rintro e w7 ⟨he, hb⟩; obtain rfl := he; replace HR2 := Lib.hid ((HR2.out.below hb).more hb.size); replace HB := Lib.hid (HB.out.trans (hb.mono HB.out.size)); clear hb)
    | (go_at_call 9; (with_reducible refine (HPd.out _).mono ?_); rintro e w8 h1; obtain ⟨A3, c3, he, -, -, hb⟩ := hands_pair h1; obtain rfl := he; replace HB := Lib.hid (HB.out.trans (hb.mono HB.out.size)); clear h1 hb))
  go_ret
  exact ⟨rfl, HB.out⟩
set_option maxRecDepth 100000 in
set_option maxHeartbeats 3200000 in
theorem back_no_path (L : List (List UInt8)) (A : Option Addr) (n c p : Nat) (s t d X : ByteArray) (w : World) (hr : Rd w w.heap.size A (strsV L)) (hL : L.length = p) (_ : p ≤ 30) (HF : Hid (SomB w A n p c)) (HT : Hid (FewB s t)) (HJ : Hid (JoiB w A p c ⟨#[]⟩ 130)) (HPa : Hid (ParB ⟨#[]⟩ ([], 130))) (M k : List (List UInt8)) (x : List UInt8) (q : Nat) (HX : Hid (X.data.toList = x)) (HM : Hid (k ++ [x] = M)) (Hq : Hid (M.length = q)) (hq : 0 < q) (hq16 : q ≤ 16) (HPt : Hid (ParB t (M, 0))) (HJM : Hid (JonB M q t)) (HS : Hid (SplB t d X 0)) (HPd : Hid (ParB d (k, 0))) :
    Calls Try.prog 6 #[.slice A n c, .string s] w fun e w' => e = .returned (.bool true) ∧ Below w.heap.size w w' := by
  unfold ParB at HPa HPt HPd
  unfold SplB at HS
  unfold FewB at HT
  unfold SomB at HF
  unfold JoiB at HJ
  unfold JonB at HJM
  have HB := Lib.hid (Below.refl w.heap.size w)
  have Hr := Lib.hid hr
  have HL := Lib.hid hL
  clear hr hL
  have hk16 : k.length ≤ 16 := by have h1 := congrArg List.length HM.out; rw [List.length_append, List.length_singleton, Hq.out] at h1; omega
  have hqi : (0 : Int) < (q : Int) := by omega
  go_enter Try.func6, Try.ntmps6
  go_wp2_with (first
    | (go_at_call 14; (with_reducible refine (shown_any _).mono ?_); rintro e w1 ⟨he, hb⟩; obtain rfl := he; replace HB := Lib.hid (HB.out.trans (hb.mono HB.out.size)); clear hb)
    | (go_at_call 17; (with_reducible refine (HF.out _ HB.out).mono ?_); rintro e wf ⟨he, hwf⟩; obtain rfl := he; subst hwf)
    | (go_at_call 10; (with_reducible refine (HT.out _).mono ?_); rintro e wf ⟨he, hwf⟩; obtain rfl := he; subst hwf)
    | (go_at_call 16; (with_reducible refine (HJ.out _ HB.out).mono ?_); rintro e w2 ⟨he, hb⟩; obtain rfl := he; replace HB := Lib.hid (HB.out.trans (hb.mono HB.out.size)); clear hb)
    | (go_at_call 9; (with_reducible refine (HPa.out _).mono ?_); rintro e w3 h1; obtain ⟨A1, c1, he, -, -, hb⟩ := hands_pair h1; obtain rfl := he; replace HB := Lib.hid (HB.out.trans (hb.mono HB.out.size)); clear h1 hb)
    | (go_at_call 9; (with_reducible refine (HPt.out _).mono ?_); rintro e w5 h1; obtain ⟨A2, c2, he, hc2, hr2, hb⟩ := hands_pair h1; obtain rfl := he; rw [Hq.out] at hc2 ⊢; have HC2 := Lib.hid hc2; have HR2 := Lib.hid hr2; replace HB := Lib.hid (HB.out.trans (hb.mono HB.out.size)); clear h1 hr2 hc2 hb)
    | (go_at_call 16; (with_reducible refine (HJM.out _ A2 c2 HC2.out HR2.out).mono ?_); rintro e w6 ⟨he, hb⟩; obtain rfl := he; replace HR2 := Lib.hid ((HR2.out.below hb).more hb.size); replace HB := Lib.hid (HB.out.trans (hb.mono HB.out.size)); clear hb)
    | (go_at_call 12; (with_reducible refine (HS.out _).mono ?_); rintro e w7 ⟨he, hb⟩; obtain rfl := he; replace HR2 := Lib.hid ((HR2.out.below hb).more hb.size); replace HB := Lib.hid (HB.out.trans (hb.mono HB.out.size)); clear hb)
    | (go_at_call 9; (with_reducible refine (HPd.out _).mono ?_); rintro e w8 ⟨v8, he, ho8, hb8⟩; obtain rfl := he; have hG : Got _ k v8 w8 := ⟨ho8, hb8⟩; obtain ⟨A3, c3, hv8⟩ := hG.slice; subst hv8; have HG := Lib.hid hG; clear ho8 hb8 hG)
    | (at_builtin; refine wpList_app9g _ (by rfl) (.tmp 114) (.tmp 116) rfl _ _ k.length k rfl (HG.out.own.alloc _) _ _ 1 1 [X.data.toList] rfl rfl (rd_one _ X 9) (by omega) (by simp; have := HG.out.below.size; omega) ?_; intro v9 w9 ho9 hg9; have hG9 := HG.out.add ho9 hg9; rw [HX.out, HM.out] at hG9; obtain ⟨A6, c6, hv9⟩ := hG9.slice; subst hv9; rw [Hq.out]; have HG9 := Lib.hid hG9; clear hG9 ho9 hg9)
    | (go_at_call 15; (with_reducible refine (same_any M A6 A2 q c6 c2 _ Hq.out HG9.out.rd ((HR2.out.below HG9.out.below).more HG9.out.below.size) (by omega)).mono ?_); rintro e w10 ⟨he, hb⟩; obtain rfl := he; replace HB := Lib.hid (HB.out.trans ((HG9.out.below.trans (hb.mono HG9.out.below.size)).mono HB.out.size)); clear hb))
  go_ret
  exact ⟨rfl, HB.out⟩
theorem back_walk (l : List (List UInt8)) (A : Option Addr) (n c : Nat) (s : ByteArray) (w : World) (hn : l.length = n) (hc : n ≤ c) (hm : c ≤ maxLen) (hr : Rd w w.heap.size A (strsV l)) :
    Calls Try.prog 6 #[.slice A n c, .string s] w fun e w' => e = .returned (.bool true) ∧ Below w.heap.size w w' := by
  have hsc : someN l ≤ c := by have := some_le l; omega
  have hs30 := some_30 l
  have HF : Hid (SomB w A n (someN l) c) := Lib.hid (fun u h => some_any l A n c u hn hc hm ((hr.below h).more h.size))
  have HT : Hid (FewB s (fewB s)) := Lib.hid (fun u => few_any s u)
  have hr2 := some_rd hr
  have hl2 := some_len l
  have hJ : ∀ u : World, Below w.heap.size w u → Calls Try.prog 16 #[.slice A (someN l) c] u fun e w' => HandsJ u (joinP (l.take (someN l))) e w' := fun u h => join_any (l.take (someN l)) A (someN l) c u (some_len l) hsc (some_rd ((hr.below h).more h.size)) (by omega)
  have ht := few_size s
  generalize l.take (someN l) = L at *
  generalize someN l = p at *
  generalize fewB s = t at *
  have par : ∀ (a : ByteArray) (r : List (List UInt8) × Nat), a.size ≤ 1000 → parseP a.data.toList = r → Hid (ParB a r) := fun a r ha h => Lib.hid (fun u => by
    have := parse_any a u (by omega)
    rwa [h] at this)
  have spl : ∀ (a : ByteArray) (x y : List UInt8) (k : Nat), a.size ≤ 1000 → splitP a.data.toList = (x, y, k) → Hid (SplB a ⟨x.toArray⟩ ⟨y.toArray⟩ (k : Int)) := fun a x y k ha h => Lib.hid (fun u => by
    have := split_any a u (by omega)
    rwa [h] at this)
  have jon : ∀ (M : List (List UInt8)) (a : ByteArray), Okp M → pathB M = a.data.toList → Hid (JonB M M.length a) := fun M a ho h => Lib.hid (fun u A' c' hq' hr' => by
    have := join_any M A' M.length c' u rfl hq' hr' (by have := ho.len; omega)
    rw [join_yes ho, h] at this
    exact this)
  have pnil : Hid (ParB ⟨#[]⟩ ([], 130)) := par ⟨#[]⟩ _ (by decide) (parse_none parP_empty)
  cases hp : parP t.data.toList with
  | none =>
    have HPt := par t _ ht (parse_none hp)
    have HS := spl t _ _ _ ht (split_none hp)
    have HJM := jon [] ⟨#[47]⟩ root_ok rfl
    by_cases hok : Okp L
    · obtain ⟨a, ha⟩ : ∃ a : ByteArray, (⟨(pathB L).toArray⟩ : ByteArray) = a := ⟨_, rfl⟩
      have hda : a.data.toList = pathB L := by rw [← ha]
      have hsa : a.size ≤ 1000 := by
        have h1 := length_path hok
        rw [← hda] at h1
        have h2 : a.size = a.data.toList.length := rfl
        omega
      rw [join_yes hok] at hJ
      unfold HandsJ at hJ
      simp only at hJ
      rw [ha] at hJ
      exact back_ok_none L A n c p s t _ _ w hr2 hl2 hs30 HF HT a (Lib.hid hJ) (par a _ hsa (parse_some (by rw [hda]; exact parP_path hok))) _ HPt HJM HS _ _ pnil
    · rw [join_no hok] at hJ
      exact back_no_none L A n c p s t _ _ w hr2 hl2 hs30 HF HT (Lib.hid hJ) pnil _ HPt HJM HS _ _ pnil
  | some M =>
    have HPt := par t _ ht (parse_some hp)
    obtain ⟨ho, he⟩ := parP_some hp
    have HJM := jon M t ho he
    rcases snoc_or M with rfl | ⟨k, x, hM⟩
    · have HS := spl t _ _ _ ht (split_root hp)
      by_cases hok : Okp L
      · obtain ⟨a, ha⟩ : ∃ a : ByteArray, (⟨(pathB L).toArray⟩ : ByteArray) = a := ⟨_, rfl⟩
        have hda : a.data.toList = pathB L := by rw [← ha]
        have hsa : a.size ≤ 1000 := by
          have h1 := length_path hok
          rw [← hda] at h1
          have h2 : a.size = a.data.toList.length := rfl
          omega
        rw [join_yes hok] at hJ
        unfold HandsJ at hJ
        simp only at hJ
        rw [ha] at hJ
        exact back_ok_root L A n c p s t _ _ w hr2 hl2 hs30 HF HT a (Lib.hid hJ) (par a _ hsa (parse_some (by rw [hda]; exact parP_path hok))) HPt HJM HS _ _ pnil
      · rw [join_no hok] at hJ
        exact back_no_root L A n c p s t _ _ w hr2 hl2 hs30 HF HT (Lib.hid hJ) pnil HPt HJM HS _ _ pnil
    · have hpk := hp
      rw [hM] at hpk
      have HS := spl t _ _ _ ht (split_some hpk)
      have hok2 := okp_init (hM ▸ ho)
      obtain ⟨d, hd⟩ : ∃ d : ByteArray, (⟨(pathB k).toArray⟩ : ByteArray) = d := ⟨_, rfl⟩
      have hdd : d.data.toList = pathB k := by rw [← hd]
      have hds : d.size ≤ 1000 := by
        have h1 := length_path hok2
        rw [← hdd] at h1
        have h2 : d.size = d.data.toList.length := rfl
        omega
      have HPd := par d _ hds (parse_some (by rw [hdd]; exact parP_path hok2))
      rw [hd] at HS
      have hq : 0 < M.length := by rw [hM]; simp
      have hX : (⟨x.toArray⟩ : ByteArray).data.toList = x := by simp
      by_cases hok : Okp L
      · obtain ⟨a, ha⟩ : ∃ a : ByteArray, (⟨(pathB L).toArray⟩ : ByteArray) = a := ⟨_, rfl⟩
        have hda : a.data.toList = pathB L := by rw [← ha]
        have hsa : a.size ≤ 1000 := by
          have h1 := length_path hok
          rw [← hda] at h1
          have h2 : a.size = a.data.toList.length := rfl
          omega
        rw [join_yes hok] at hJ
        unfold HandsJ at hJ
        simp only at hJ
        rw [ha] at hJ
        exact back_ok_path L A n c p s t d _ w hr2 hl2 hs30 HF HT a (Lib.hid hJ) (par a _ hsa (parse_some (by rw [hda]; exact parP_path hok))) M k x _ (Lib.hid hX) (Lib.hid hM.symm) (Lib.hid rfl) hq ho.len HPt HJM HS HPd
      · rw [join_no hok] at hJ
        exact back_no_path L A n c p s t d _ w hr2 hl2 hs30 HF HT (Lib.hid hJ) pnil M k x _ (Lib.hid hX) (Lib.hid hM.symm) (Lib.hid rfl) hq ho.len HPt HJM HS HPd

theorem back_contract (H : Type) (enc : TypeId × Value → H) (W : World) (base : Nat) (args : Array Value) (ds gs : List (DataW H)) (before : List MemPlace)
    (hval : ∀ (j : Nat) t v, Try.f6.params[j]? = some t → args[j]? = some v → Value.okWide Try.prog W .any base t v)
    (hW : DataW.Whole enc Try.prog Try.f6.params.toList Rows.pathBackSpec.vars false W args.toList ds gs before) :
    Calls Try.prog 6 args W fun e W' => ∃ v, e = .returned v ∧ Rows.pathBackSpec.post enc Try.prog Try.f6 false true false false W args v W' := by
  have hW' := hW
  have hlt : ∀ x ∈ before, x.block < W.heap.size := fun x hx => hW.lt x hx
  obtain ⟨p, q, hA0, hV, rfl, _, _⟩ := hW
  have hA : DataW.TrodAll enc Try.prog W 0 (fun _ => true) true Try.f6.params.toList args.toList ds p := hA0
  rw [Try.params6] at hA hval
  obtain ⟨v0, vs0, d0, ds0, p0, q0, hargs, rfl, rfl, h0, r0⟩ := trodAll_cons hA
  obtain ⟨v1, vs1, d1, ds1, p1, q1, rfl, rfl, rfl, h1, r1⟩ := trodAll_cons r0
  obtain ⟨rfl, rfl, rfl⟩ := trodAll_nil r1
  obtain rfl : args = #[v0, v1] := by cases args; simp_all
  obtain ⟨rfl, rfl⟩ := trodVars_none hV
  clear hA0
  obtain ⟨A0, n0, c0, l0, rfl, hn0, hc0, hm0, hr0, ho0⟩ := Path.open_strsL Try.underlying22 Try.underlying9 cells9 (hval 0 22 v0 rfl rfl) h0 (fun x hx => hlt x (by simp [hx]))
  unfold maxLen at hm0
  obtain ⟨s1, rfl, rfl, rfl, hs1⟩ := Go.ChangeMaps.open_string Try.underlying9 (hval 1 9 v1 rfl rfl) h1
  unfold maxLen at hs1
  refine (back_walk l0 A0 n0 c0 s1 W hn0 hc0 (by unfold maxLen; omega) hr0).mono fun e W' ⟨he, hb⟩ => ?_
  subst he
  exact ⟨_, rfl, law_post laid (by kernel_rfl) Try.underlying4 (by rw [Try.params6]; decide +kernel) rfl hW' ⟨rfl, rfl, rfl⟩ hb⟩

set_option maxRecDepth 100000 in
theorem back_lifted (os : Os) (started : os.Started) (H : Type) (enc : TypeId × Value → H) :
    ReturnsInHanded {} Try.checked os 6 .any (Rows.pathBackSpec.pre6 enc Try.prog Try.f6 Rows.pathBackRow.domain false) (Rows.pathBackSpec.post enc Try.prog Try.f6 false true false false) := by
  refine returnsInHanded_of_change (C := Try.checked) own started (by kernel_rfl) Try.func6
    (ChangeSpec.witness6 (enc := enc) (C := Try.checked) false ⟨#[], #[.slice none 0 0, .string .empty], []⟩ 8 (by kernel_rfl) (by kernel_rfl) (by kernel_rfl) (by kernel_rfl)) ?_
  intro W base args ds gs before hval hW _ _
  exact back_contract H enc W base args ds gs before hval hW

/-- PathBack is true for every input. -/
theorem back_holds : Rows.PathBackSaid :=
  OpenClaim.holds_of_wide 6 Try.f6 rfl rfl rfl rfl rfl rfl rfl ⟨rfl, rfl, rfl, rfl, rfl⟩ rfl rfl rfl rfl rfl (by kernel_rfl) Try.func6 (by kernel_rfl)
    (of_decide_eq_true (by kernel_rfl)) (by unfold Func.isWrapper; first | (rw [if_pos (by decide +kernel)]; kernel_rfl) | (rw [if_neg (by decide +kernel)]; exact ⟨rfl, rfl⟩))
    (fun os started H enc _ => back_lifted os started H enc)
end Go.Proofs.Ythpppkkagepomaa
