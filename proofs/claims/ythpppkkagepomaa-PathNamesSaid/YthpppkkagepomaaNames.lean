/-
  PathNames: whatever the text (the first 1,000 bytes) and the name (the first 100), a name that is right makes a path of its own, behind any path that is not too long, and no other text does.
-/
import Derived.Test.YthpppkkagepomaaO
import Derived.Deep.RegionHeld3
import Derived.Laws.OwnMore
namespace Go.Proofs.Ythpppkkagepomaa
open Go.ChangeShapes Go.WideShapes Go.ChangeAt Go.RowKit Path

theorem part_goal {P Q : Prop} (h : Hid P → Q) (p : P) : Q := h (Lib.hid p)
theorem Path.Got.app {w w' w2 : World} {L K : List (List UInt8)} {n : Nat} {v v' : Value} (h : Got w L v w') (ho : w2.ownsRow w.heap.size 9 1 v' n (strsV (L ++ K))) (hn : n = (L ++ K).length) (hg : w'.grownBy w2 v.ownBlock) : Got w (L ++ K) v' w2 := by
  subst hn
  exact ⟨ho, h.below.grown hg h.below.size (fun k hk => (h.own.lt k hk).1)⟩
theorem got_lit (w : World) : Got w [] (.slice (some ⟨w.heap.size, 0, none⟩) 0 0) (w.alloc (.cells #[] 9)) := ⟨World.ownsRow_lit w #[] 0 (Nat.le_refl _) (by decide) rfl, Entry.alloc_below _ _⟩
theorem Path.Got.cap {w w' : World} {L : List (List UInt8)} {A : Option Addr} {c : Nat} (h : Got w L (.slice A L.length c) w') : L.length ≤ c := by
  obtain ⟨_, A', c', hv, hc, _⟩ := own_rd h.own
  injection hv with _ _ h3
  omega
/-- Join of a list that lies anywhere. -/
def JonN (M : List (List UInt8)) (q : Nat) (a : ByteArray) (k : Int) : Prop := ∀ (u : World) (A : Option Addr) (c : Nat), q ≤ c → Rd u u.heap.size A (strsV M) → Calls Try.prog 16 #[.slice A q c] u fun e w' => e = .returned (.tuple #[.string a, .int .i64 k]) ∧ Below u.heap.size u w'
theorem jon_n (M : List (List UInt8)) (h : M.length ≤ 1000) : JonN M M.length ⟨(joinP M).1.toArray⟩ ((joinP M).2 : Int) := fun u A c hc hr => join_any M A M.length c u rfl hc hr (by omega)
set_option maxRecDepth 100000 in
set_option maxHeartbeats 3200000 in
theorem names_none (s t a x : ByteArray) (q : Nat) (w : World) (HF : Hid (∀ u : World, Calls Try.prog 10 #[.string s] u fun e w' => e = .returned (.string a) ∧ u = w')) (hq : min (t.size : Int) 100 = (q : Int)) (hq1 : q ≤ t.size) (hx : t.extract 0 q = x)
    (j1 j2 : ByteArray) (L M : List (List UInt8)) (p m : Nat) (HL : Hid (L.length = p)) (hp16 : p ≤ 16) (HM : Hid (L ++ [x.data.toList] = M)) (Hm : Hid (M.length = m)) (e1 e2 : Int) (HP : Hid (∀ u : World, Calls Try.prog 9 #[.string a] u fun e w' => HandsP u (L, 130) e w')) (HO : Hid (JonN [x.data.toList] 1 j1 e1)) (HN : Hid (JonN M m j2 e2)) (hp : ((p : Int) == 0) = true) :
    Calls Try.prog 8 #[.string s, .string t] w fun e w' => e = .returned (.bool true) ∧ Below w.heap.size w w' := by
  unfold JonN at HO HN
  have h0 : (0 : Int) ≤ (q : Int) := by omega
  have h1 : (q : Int) ≤ (t.size : Int) := by omega
  go_enter Try.func8, Try.ntmps8
  go_wp2_with (go_at_call 14; (with_reducible refine (shown_any _).mono ?_); rintro e w1 ⟨he, hb⟩; obtain rfl := he; have HB := Lib.hid (Entry.below_drew hb); clear hb)
  apply part_goal
  · intro key
    go_region_held3 (fun u => Below w.heap.size w u)
      (exact HB.out)
      (first | (go_at_call 10; refine (HF.out _).mono ?_; rintro e w6 ⟨he, hw⟩; obtain rfl := he; subst hw))
    all_goals exact key.out
  clear hq hq1 hx h0 h1
  go_wp2_with (first
    | (go_at_call 9; (with_reducible refine (HP.out _).mono ?_); rintro e w3 h1; obtain ⟨A1, c1, he, -, hr1, hb⟩ := hands_pair h1; obtain rfl := he; rw [HL.out]; have HR1 := Lib.hid hr1; replace HB := Lib.hid (HB.out.trans (hb.mono HB.out.size)); clear h1 hr1 hb)
    | (go_at_call 16; (with_reducible refine (HO.out _ _ 1 (Nat.le_refl _) ((rd_one _ x 9).more (by simp))).mono ?_); rintro e w4 ⟨he, hb⟩; obtain rfl := he; replace hb := (Entry.alloc_below _ _).trans (hb.mono (Entry.alloc_below _ _).size); have HR2 := Lib.hid ((HR1.out.below hb).more hb.size); have HG := Lib.hid (got_lit w4); replace HB := Lib.hid (HB.out.trans (hb.mono HB.out.size)); clear hb)
    | (at_builtin; refine wpList_app9 _ rfl (.tmp 37) (.tmp 38) rfl _ _ 0 [] rfl HG.out.own _ A1 p c1 L rfl HL.out (HR2.out.below (Entry.alloc_below _ _)) (by omega) (by simp) ?_; intro v5 w5 ho5 hg5; have hG5 := HG.out.app ho5 (by simp [HL.out]) hg5; rw [List.nil_append] at hG5; have HG5 := Lib.hid hG5; clear ho5 hg5 hG5)
    | (at_builtin; refine wpList_app9 _ rfl (.tmp 39) (.tmp 41) rfl _ _ L.length L rfl (HG5.out.own.alloc _) _ _ 1 1 [x.data.toList] rfl rfl (rd_one _ x 9) (by have := HL.out; omega) (by simp; have := HG5.out.below.size; omega) ?_; intro v6 w6 ho6 hg6; have hG6 := HG5.out.add ho6 hg6; rw [HM.out] at hG6; obtain ⟨A6, c6, hv6⟩ := hG6.slice; subst hv6; have hc6 := hG6.cap; rw [Hm.out] at hc6 ⊢; have HG6 := Lib.hid hG6; replace HB := Lib.hid (HB.out.trans (hG6.below.mono HB.out.size)); have HC6 := Lib.hid hc6; clear ho6 hg6 hG6 hc6)
    | (go_at_call 16; (with_reducible refine (HN.out _ A6 c6 HC6.out HG6.out.rd).mono ?_); rintro e w7 ⟨he, hb⟩; obtain rfl := he; replace HB := Lib.hid (HB.out.trans (hb.mono HB.out.size)); clear hb))
  go_ret
  exact ⟨rfl, HB.out⟩
set_option maxRecDepth 100000 in
set_option maxHeartbeats 3200000 in
theorem names_wrong (s t a x : ByteArray) (q : Nat) (w : World) (HF : Hid (∀ u : World, Calls Try.prog 10 #[.string s] u fun e w' => e = .returned (.string a) ∧ u = w')) (hq : min (t.size : Int) 100 = (q : Int)) (hq1 : q ≤ t.size) (hx : t.extract 0 q = x)
    (j1 _ : ByteArray) (L M : List (List UInt8)) (p m : Nat) (HL : Hid (L.length = p)) (hp16 : p ≤ 16) (HM : Hid (L ++ [x.data.toList] = M)) (Hm : Hid (M.length = m)) (HP : Hid (∀ u : World, Calls Try.prog 9 #[.string a] u fun e w' => HandsP u (L, 0) e w')) (HO : Hid (JonN [x.data.toList] 1 j1 130)) (HN : Hid (JonN M m ⟨#[]⟩ 130)) :
    Calls Try.prog 8 #[.string s, .string t] w fun e w' => e = .returned (.bool true) ∧ Below w.heap.size w w' := by
  unfold JonN at HO HN
  have h0 : (0 : Int) ≤ (q : Int) := by omega
  have h1 : (q : Int) ≤ (t.size : Int) := by omega
  go_enter Try.func8, Try.ntmps8
  go_wp2_with (go_at_call 14; (with_reducible refine (shown_any _).mono ?_); rintro e w1 ⟨he, hb⟩; obtain rfl := he; have HB := Lib.hid (Entry.below_drew hb); clear hb)
  apply part_goal
  · intro key
    go_region_held3 (fun u => Below w.heap.size w u)
      (exact HB.out)
      (first | (go_at_call 10; refine (HF.out _).mono ?_; rintro e w6 ⟨he, hw⟩; obtain rfl := he; subst hw))
    all_goals exact key.out
  clear hq hq1 hx h0 h1
  go_wp2_with (first
    | (go_at_call 9; (with_reducible refine (HP.out _).mono ?_); rintro e w3 h1; obtain ⟨A1, c1, he, -, hr1, hb⟩ := hands_pair h1; obtain rfl := he; rw [HL.out]; have HR1 := Lib.hid hr1; replace HB := Lib.hid (HB.out.trans (hb.mono HB.out.size)); clear h1 hr1 hb)
    | (go_at_call 16; (with_reducible refine (HO.out _ _ 1 (Nat.le_refl _) ((rd_one _ x 9).more (by simp))).mono ?_); rintro e w4 ⟨he, hb⟩; obtain rfl := he; replace hb := (Entry.alloc_below _ _).trans (hb.mono (Entry.alloc_below _ _).size); have HR2 := Lib.hid ((HR1.out.below hb).more hb.size); have HG := Lib.hid (got_lit w4); replace HB := Lib.hid (HB.out.trans (hb.mono HB.out.size)); clear hb)
    | (at_builtin; refine wpList_app9 _ rfl (.tmp 37) (.tmp 38) rfl _ _ 0 [] rfl HG.out.own _ A1 p c1 L rfl HL.out (HR2.out.below (Entry.alloc_below _ _)) (by omega) (by simp) ?_; intro v5 w5 ho5 hg5; have hG5 := HG.out.app ho5 (by simp [HL.out]) hg5; rw [List.nil_append] at hG5; have HG5 := Lib.hid hG5; clear ho5 hg5 hG5)
    | (at_builtin; refine wpList_app9 _ rfl (.tmp 39) (.tmp 41) rfl _ _ L.length L rfl (HG5.out.own.alloc _) _ _ 1 1 [x.data.toList] rfl rfl (rd_one _ x 9) (by have := HL.out; omega) (by simp; have := HG5.out.below.size; omega) ?_; intro v6 w6 ho6 hg6; have hG6 := HG5.out.add ho6 hg6; rw [HM.out] at hG6; obtain ⟨A6, c6, hv6⟩ := hG6.slice; subst hv6; have hc6 := hG6.cap; rw [Hm.out] at hc6 ⊢; have HG6 := Lib.hid hG6; replace HB := Lib.hid (HB.out.trans (hG6.below.mono HB.out.size)); have HC6 := Lib.hid hc6; clear ho6 hg6 hG6 hc6)
    | (go_at_call 16; (with_reducible refine (HN.out _ A6 c6 HC6.out HG6.out.rd).mono ?_); rintro e w7 ⟨he, hb⟩; obtain rfl := he; replace HB := Lib.hid (HB.out.trans (hb.mono HB.out.size)); clear hb))
  go_ret
  exact ⟨rfl, HB.out⟩
set_option maxRecDepth 100000 in
set_option maxHeartbeats 3200000 in
theorem names_long (s t a x : ByteArray) (q : Nat) (w : World) (HF : Hid (∀ u : World, Calls Try.prog 10 #[.string s] u fun e w' => e = .returned (.string a) ∧ u = w')) (hq : min (t.size : Int) 100 = (q : Int)) (hq1 : q ≤ t.size) (hx : t.extract 0 q = x)
    (j1 _ : ByteArray) (L M : List (List UInt8)) (p m : Nat) (HL : Hid (L.length = p)) (hp16 : p ≤ 16) (HM : Hid (L ++ [x.data.toList] = M)) (Hm : Hid (M.length = m)) (HP : Hid (∀ u : World, Calls Try.prog 9 #[.string a] u fun e w' => HandsP u (L, 0) e w')) (HO : Hid (JonN [x.data.toList] 1 j1 0)) (HN : Hid (JonN M m ⟨#[]⟩ 130)) (hp : ((p : Int) == 16) = true) :
    Calls Try.prog 8 #[.string s, .string t] w fun e w' => e = .returned (.bool true) ∧ Below w.heap.size w w' := by
  unfold JonN at HO HN
  have h0 : (0 : Int) ≤ (q : Int) := by omega
  have h1 : (q : Int) ≤ (t.size : Int) := by omega
  go_enter Try.func8, Try.ntmps8
  go_wp2_with (go_at_call 14; (with_reducible refine (shown_any _).mono ?_); rintro e w1 ⟨he, hb⟩; obtain rfl := he; have HB := Lib.hid (Entry.below_drew hb); clear hb)
  apply part_goal
  · intro key
    go_region_held3 (fun u => Below w.heap.size w u)
      (exact HB.out)
      (first | (go_at_call 10; refine (HF.out _).mono ?_; rintro e w6 ⟨he, hw⟩; obtain rfl := he; subst hw))
    all_goals exact key.out
  clear hq hq1 hx h0 h1
  go_wp2_with (first
    | (go_at_call 9; (with_reducible refine (HP.out _).mono ?_); rintro e w3 h1; obtain ⟨A1, c1, he, -, hr1, hb⟩ := hands_pair h1; obtain rfl := he; rw [HL.out]; have HR1 := Lib.hid hr1; replace HB := Lib.hid (HB.out.trans (hb.mono HB.out.size)); clear h1 hr1 hb)
    | (go_at_call 16; (with_reducible refine (HO.out _ _ 1 (Nat.le_refl _) ((rd_one _ x 9).more (by simp))).mono ?_); rintro e w4 ⟨he, hb⟩; obtain rfl := he; replace hb := (Entry.alloc_below _ _).trans (hb.mono (Entry.alloc_below _ _).size); have HR2 := Lib.hid ((HR1.out.below hb).more hb.size); have HG := Lib.hid (got_lit w4); replace HB := Lib.hid (HB.out.trans (hb.mono HB.out.size)); clear hb)
    | (at_builtin; refine wpList_app9 _ rfl (.tmp 37) (.tmp 38) rfl _ _ 0 [] rfl HG.out.own _ A1 p c1 L rfl HL.out (HR2.out.below (Entry.alloc_below _ _)) (by omega) (by simp) ?_; intro v5 w5 ho5 hg5; have hG5 := HG.out.app ho5 (by simp [HL.out]) hg5; rw [List.nil_append] at hG5; have HG5 := Lib.hid hG5; clear ho5 hg5 hG5)
    | (at_builtin; refine wpList_app9 _ rfl (.tmp 39) (.tmp 41) rfl _ _ L.length L rfl (HG5.out.own.alloc _) _ _ 1 1 [x.data.toList] rfl rfl (rd_one _ x 9) (by have := HL.out; omega) (by simp; have := HG5.out.below.size; omega) ?_; intro v6 w6 ho6 hg6; have hG6 := HG5.out.add ho6 hg6; rw [HM.out] at hG6; obtain ⟨A6, c6, hv6⟩ := hG6.slice; subst hv6; have hc6 := hG6.cap; rw [Hm.out] at hc6 ⊢; have HG6 := Lib.hid hG6; replace HB := Lib.hid (HB.out.trans (hG6.below.mono HB.out.size)); have HC6 := Lib.hid hc6; clear ho6 hg6 hG6 hc6)
    | (go_at_call 16; (with_reducible refine (HN.out _ A6 c6 HC6.out HG6.out.rd).mono ?_); rintro e w7 ⟨he, hb⟩; obtain rfl := he; replace HB := Lib.hid (HB.out.trans (hb.mono HB.out.size)); clear hb))
  go_ret
  exact ⟨rfl, HB.out⟩
set_option maxRecDepth 100000 in
set_option maxHeartbeats 3200000 in
theorem names_yes (s t a x : ByteArray) (q : Nat) (w : World) (HF : Hid (∀ u : World, Calls Try.prog 10 #[.string s] u fun e w' => e = .returned (.string a) ∧ u = w')) (hq : min (t.size : Int) 100 = (q : Int)) (hq1 : q ≤ t.size) (hx : t.extract 0 q = x)
    (j1 j2 : ByteArray) (L M : List (List UInt8)) (p m : Nat) (HL : Hid (L.length = p)) (hp16 : p ≤ 16) (HM : Hid (L ++ [x.data.toList] = M)) (Hm : Hid (M.length = m)) (HP : Hid (∀ u : World, Calls Try.prog 9 #[.string a] u fun e w' => HandsP u (L, 0) e w')) (HO : Hid (JonN [x.data.toList] 1 j1 0)) (HN : Hid (JonN M m j2 0)) (hp : ((p : Int) == 16) = false) (HS : Hid (∀ u : World, Calls Try.prog 12 #[.string j2] u fun e w' => e = .returned (.tuple #[.string a, .string x, .int .i64 0]) ∧ Below u.heap.size u w')) (HU : Hid (∀ u : World, Calls Try.prog 19 #[.string j2, .string a] u fun e w' => e = .returned (.bool true) ∧ Below u.heap.size u w')) :
    Calls Try.prog 8 #[.string s, .string t] w fun e w' => e = .returned (.bool true) ∧ Below w.heap.size w w' := by
  unfold JonN at HO HN
  have h0 : (0 : Int) ≤ (q : Int) := by omega
  have h1 : (q : Int) ≤ (t.size : Int) := by omega
  go_enter Try.func8, Try.ntmps8
  go_wp2_with (go_at_call 14; (with_reducible refine (shown_any _).mono ?_); rintro e w1 ⟨he, hb⟩; obtain rfl := he; have HB := Lib.hid (Entry.below_drew hb); clear hb)
  apply part_goal
  · intro key
    go_region_held3 (fun u => Below w.heap.size w u)
      (exact HB.out)
      (first | (go_at_call 10; refine (HF.out _).mono ?_; rintro e w6 ⟨he, hw⟩; obtain rfl := he; subst hw))
    all_goals exact key.out
  clear hq hq1 hx h0 h1
  go_wp2_with (first
    | (go_at_call 9; (with_reducible refine (HP.out _).mono ?_); rintro e w3 h1; obtain ⟨A1, c1, he, -, hr1, hb⟩ := hands_pair h1; obtain rfl := he; rw [HL.out]; have HR1 := Lib.hid hr1; replace HB := Lib.hid (HB.out.trans (hb.mono HB.out.size)); clear h1 hr1 hb)
    | (go_at_call 16; (with_reducible refine (HO.out _ _ 1 (Nat.le_refl _) ((rd_one _ x 9).more (by simp))).mono ?_); rintro e w4 ⟨he, hb⟩; obtain rfl := he; replace hb := (Entry.alloc_below _ _).trans (hb.mono (Entry.alloc_below _ _).size); have HR2 := Lib.hid ((HR1.out.below hb).more hb.size); have HG := Lib.hid (got_lit w4); replace HB := Lib.hid (HB.out.trans (hb.mono HB.out.size)); clear hb)
    | (at_builtin; refine wpList_app9 _ rfl (.tmp 37) (.tmp 38) rfl _ _ 0 [] rfl HG.out.own _ A1 p c1 L rfl HL.out (HR2.out.below (Entry.alloc_below _ _)) (by omega) (by simp) ?_; intro v5 w5 ho5 hg5; have hG5 := HG.out.app ho5 (by simp [HL.out]) hg5; rw [List.nil_append] at hG5; have HG5 := Lib.hid hG5; clear ho5 hg5 hG5)
    | (at_builtin; refine wpList_app9 _ rfl (.tmp 39) (.tmp 41) rfl _ _ L.length L rfl (HG5.out.own.alloc _) _ _ 1 1 [x.data.toList] rfl rfl (rd_one _ x 9) (by have := HL.out; omega) (by simp; have := HG5.out.below.size; omega) ?_; intro v6 w6 ho6 hg6; have hG6 := HG5.out.add ho6 hg6; rw [HM.out] at hG6; obtain ⟨A6, c6, hv6⟩ := hG6.slice; subst hv6; have hc6 := hG6.cap; rw [Hm.out] at hc6 ⊢; have HG6 := Lib.hid hG6; replace HB := Lib.hid (HB.out.trans (hG6.below.mono HB.out.size)); have HC6 := Lib.hid hc6; clear ho6 hg6 hG6 hc6)
    | (go_at_call 16; (with_reducible refine (HN.out _ A6 c6 HC6.out HG6.out.rd).mono ?_); rintro e w7 ⟨he, hb⟩; obtain rfl := he; replace HB := Lib.hid (HB.out.trans (hb.mono HB.out.size)); clear hb)
    | (go_at_call 12; (with_reducible refine (HS.out _).mono ?_); rintro e w8 ⟨he, hb⟩; obtain rfl := he; replace HB := Lib.hid (HB.out.trans (hb.mono HB.out.size)); clear hb)
    | (go_at_call 19; (with_reducible refine (HU.out _).mono ?_); rintro e w9 ⟨he, hb⟩; obtain rfl := he; replace HB := Lib.hid (HB.out.trans (hb.mono HB.out.size)); clear hb))
  go_ret
  exact ⟨rfl, HB.out⟩
theorem join_one_yes {x : List UInt8} (h : Entry.nameB x = true) : joinP [x] = (pathB [x], 0) := join_yes ⟨by simp, fun n hn => by rw [List.mem_singleton.1 hn]; exact h⟩
theorem join_one_no {x : List UInt8} (h : Entry.nameB x = false) : joinP [x] = ([], 130) := join_no fun ho => by
  have := ho.names x (by simp)
  rw [h] at this
  cases this
theorem names_walk (s t : ByteArray) (w : World) (ht : t.size ≤ 9223372036854775807) : Calls Try.prog 8 #[.string s, .string t] w fun e w' => e = .returned (.bool true) ∧ Below w.heap.size w w' := by
  have HF := Lib.hid (fun u => few_any s u)
  have ha := few_size s
  generalize fewB s = a at *
  obtain ⟨q, hq⟩ : ∃ q, min t.size 100 = q := ⟨_, rfl⟩
  have hqi : min (t.size : Int) 100 = (q : Int) := by omega
  have hq1 : q ≤ t.size := by omega
  obtain ⟨x, hx⟩ : ∃ x, t.extract 0 q = x := ⟨_, rfl⟩
  clear hq
  have HO := Lib.hid (jon_n [x.data.toList] (by simp))
  have par : ∀ r : List (List UInt8) × Nat, parseP a.data.toList = r → Hid (∀ u : World, Calls Try.prog 9 #[.string a] u fun e w' => HandsP u r e w') := fun r h => Lib.hid (fun u => by
    have := parse_any a u (by omega)
    rwa [h] at this)
  cases hp : parP a.data.toList with
  | none =>
    have HP := par _ (parse_none hp)
    have HN := Lib.hid (jon_n ([] ++ [x.data.toList]) (by simp))
    exact names_none s t a x q w HF hqi hq1 hx _ _ [] _ 0 _ (Lib.hid rfl) (by omega) (Lib.hid rfl) (Lib.hid rfl) _ _ HP HO HN (by rfl)
  | some L =>
    have HP := par _ (parse_some hp)
    obtain ⟨ho, he⟩ := parP_some hp
    have h16 := ho.len
    have HN := Lib.hid (jon_n (L ++ [x.data.toList]) (by rw [List.length_append, List.length_singleton]; omega))
    cases hb : Entry.nameB x.data.toList
    · rw [join_one_no hb] at HO
      have hno : ¬ Okp (L ++ [x.data.toList]) := fun h => by
        have := h.names x.data.toList (by simp)
        rw [hb] at this
        cases this
      rw [join_no hno] at HN
      exact names_wrong s t a x q w HF hqi hq1 hx _ ⟨#[]⟩ L _ _ _ (Lib.hid rfl) h16 (Lib.hid rfl) (Lib.hid rfl) HP HO HN
    · rw [join_one_yes hb] at HO
      by_cases hl : L.length = 16
      · have hno : ¬ Okp (L ++ [x.data.toList]) := fun h => by
          have := h.len
          rw [List.length_append, List.length_singleton] at this
          omega
        rw [join_no hno] at HN
        exact names_long s t a x q w HF hqi hq1 hx _ ⟨#[]⟩ L _ _ _ (Lib.hid rfl) h16 (Lib.hid rfl) (Lib.hid rfl) HP HO HN (by rw [hl]; rfl)
      · have hyes := ho.snoc (by omega) hb
        rw [join_yes hyes] at HN
        obtain ⟨T, hT⟩ : ∃ T : ByteArray, (⟨(pathB (L ++ [x.data.toList])).toArray⟩ : ByteArray) = T := ⟨_, rfl⟩
        have hTd : T.data.toList = pathB (L ++ [x.data.toList]) := by rw [← hT]
        have hTs : T.size ≤ 1000 := by
          have h1 := length_path hyes
          rw [← hTd] at h1
          have h2 : T.size = T.data.toList.length := rfl
          omega
        have hsp := split_yes hyes
        have hud := (under_dir hyes).1
        rw [← hTd] at hsp hud
        rw [he] at hsp hud
        simp only at HN
        rw [hT] at HN
        have HS : Hid (∀ u : World, Calls Try.prog 12 #[.string T] u fun e w' => e = .returned (.tuple #[.string a, .string x, .int .i64 0]) ∧ Below u.heap.size u w') := Lib.hid (fun u => by
          have := split_any T u (by omega)
          rw [hsp] at this
          unfold HandsS at this
          simp only at this
          rwa [← str_ext (a := a) rfl, ← str_ext (a := x) rfl] at this)
        have HU : Hid (∀ u : World, Calls Try.prog 19 #[.string T, .string a] u fun e w' => e = .returned (.bool true) ∧ Below u.heap.size u w') := Lib.hid (fun u => by
          have := under_any T a u (by omega) (by omega)
          rwa [hud] at this)
        exact names_yes s t a x q w HF hqi hq1 hx _ T L _ _ _ (Lib.hid rfl) h16 (Lib.hid rfl) (Lib.hid rfl) HP HO HN (by simp; omega) HS HU

theorem names_contract (H : Type) (enc : TypeId × Value → H) (W : World) (base : Nat) (args : Array Value) (ds gs : List (DataW H)) (before : List MemPlace)
    (hval : ∀ (j : Nat) t v, Try.f8.params[j]? = some t → args[j]? = some v → Value.okWide Try.prog W .any base t v)
    (hW : DataW.Whole enc Try.prog Try.f8.params.toList Rows.pathNamesSpec.vars false W args.toList ds gs before) :
    Calls Try.prog 8 args W fun e W' => ∃ v, e = .returned v ∧ Rows.pathNamesSpec.post enc Try.prog Try.f8 false true false false W args v W' := by
  have hW' := hW
  have hlt : ∀ x ∈ before, x.block < W.heap.size := fun x hx => hW.lt x hx
  obtain ⟨p, q, hA0, hV, rfl, _, _⟩ := hW
  have hA : DataW.TrodAll enc Try.prog W 0 (fun _ => true) true Try.f8.params.toList args.toList ds p := hA0
  rw [Try.params8] at hA hval
  obtain ⟨v0, vs0, d0, ds0, p0, q0, hargs, rfl, rfl, h0, r0⟩ := trodAll_cons hA
  obtain ⟨v1, vs1, d1, ds1, p1, q1, rfl, rfl, rfl, h1, r1⟩ := trodAll_cons r0
  obtain ⟨rfl, rfl, rfl⟩ := trodAll_nil r1
  obtain rfl : args = #[v0, v1] := by cases args; simp_all
  obtain ⟨rfl, rfl⟩ := trodVars_none hV
  clear hA0
  obtain ⟨s0, rfl, rfl, rfl, hs0⟩ := Go.ChangeMaps.open_string Try.underlying9 (hval 0 9 v0 rfl rfl) h0
  unfold maxLen at hs0
  obtain ⟨s1, rfl, rfl, rfl, hs1⟩ := Go.ChangeMaps.open_string Try.underlying9 (hval 1 9 v1 rfl rfl) h1
  unfold maxLen at hs1
  refine (names_walk s0 s1 W (by omega)).mono fun e W' ⟨he, hb⟩ => ?_
  subst he
  exact ⟨_, rfl, law_post laid (by kernel_rfl) Try.underlying4 (by rw [Try.params8]; decide +kernel) rfl hW' ⟨rfl, rfl, rfl⟩ hb⟩

set_option maxRecDepth 100000 in
theorem names_lifted (os : Os) (started : os.Started) (H : Type) (enc : TypeId × Value → H) :
    ReturnsInHanded {} Try.checked os 8 .any (Rows.pathNamesSpec.pre6 enc Try.prog Try.f8 Rows.pathNamesRow.domain false) (Rows.pathNamesSpec.post enc Try.prog Try.f8 false true false false) := by
  refine returnsInHanded_of_change (C := Try.checked) own started (by kernel_rfl) Try.func8
    (ChangeSpec.witness6 (enc := enc) (C := Try.checked) false ⟨#[], #[.string .empty, .string .empty], []⟩ 8 (by kernel_rfl) (by kernel_rfl) (by kernel_rfl) (by kernel_rfl)) ?_
  intro W base args ds gs before hval hW _ _
  exact names_contract H enc W base args ds gs before hval hW

/-- PathNames is true for every input. -/
theorem names_holds : Rows.PathNamesSaid :=
  OpenClaim.holds_of_wide 8 Try.f8 rfl rfl rfl rfl rfl rfl rfl ⟨rfl, rfl, rfl, rfl, rfl⟩ rfl rfl rfl rfl rfl (by kernel_rfl) Try.func8 (by kernel_rfl)
    (of_decide_eq_true (by kernel_rfl)) (by unfold Func.isWrapper; first | (rw [if_pos (by decide +kernel)]; kernel_rfl) | (rw [if_neg (by decide +kernel)]; exact ⟨rfl, rfl⟩))
    (fun os started H enc _ => names_lifted os started H enc)
end Go.Proofs.Ythpppkkagepomaa
