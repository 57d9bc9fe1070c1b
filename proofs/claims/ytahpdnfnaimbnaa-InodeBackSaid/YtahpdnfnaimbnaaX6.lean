/-
  Blocks of pointers: package inode's Pointers and Block, and the document's.
-/
import Derived.Test.YtahpdnfnaimbnaaX5
namespace Go.Proofs.Ytahpdnfnaimbnaa.Inode
open Go.RowKit

/-- Ints, or bytes, and an error, that a call hands back in memory of their own. -/
def HandsI (w : World) (l : List Int) (err : Nat) (e : Ending) (w' : World) : Prop :=
  ∃ v, e = .returned (.tuple #[v, .int .i64 (err : Int)]) ∧ w'.ownsRow w.heap.size 3 1 v l.length (intsV l) ∧ Below w.heap.size w w'
def HandsB (w : World) (bs : List UInt8) (err : Nat) (e : Ending) (w' : World) : Prop :=
  ∃ v, e = .returned (.tuple #[v, .int .i64 (err : Int)]) ∧ w'.ownsRow w.heap.size 5 1 v bs.length (bytesV bs) ∧ Below w.heap.size w w'

theorem poiP_len {b : List UInt8} (h : b.length ≠ 64) : poiP b = ([], 1) := by unfold poiP; rw [if_neg fun h2 => h h2.1]
theorem poiP_yes {b : List UInt8} (h : b.length = 64) (hp : (ptrs b).all ptrB = true) : poiP b = (ptrs b, 0) := by unfold poiP; rw [if_pos ⟨h, hp⟩]
theorem poiP_no {b : List UInt8} (hp : (ptrs b).all ptrB = false) : poiP b = ([], 1) := by unfold poiP; rw [if_neg fun h2 => by rw [hp] at h2; cases h2.2]
theorem bloP_len {l : List Int} (h : l.length ≠ 32) : bloP l = ([], 1) := by unfold bloP; rw [if_neg fun h2 => h h2.1]
theorem bloP_yes {l : List Int} (h : l.length = 32) (hp : l.all ptrB = true) : bloP l = (layl 2 (l.map Int.toNat), 0) := by unfold bloP; rw [if_pos ⟨h, hp⟩]
theorem bloP_no {l : List Int} (hp : l.all ptrB = false) : bloP l = ([], 1) := by unfold bloP; rw [if_neg fun h2 => by rw [hp] at h2; cases h2.2]

set_option maxHeartbeats 800000 in
theorem poi_any (l : List UInt8) (A : Option Addr) (n c : Nat) (w : World) (hn : l.length = n) (hr : Rd w w.heap.size A (bytesV l)) (hc : n ≤ c) :
    Calls Try.prog 17 #[.slice A n c] w fun e w' => HandsI w (poiP l).1 (poiP l).2 e w' := by
  by_cases h64 : n = 64
  rotate_left
  · have hP := poiP_len (b := l) (by omega)
    have hq : ((n : Int) != 64) = true := by simp; omega
    rw [hP]
    clear hn hr hP h64
    go_enter Try.func17, Try.ntmps17
    go_wp2
    go_ret2
    exact ⟨_, rfl, World.ownsRow_nil _ _ _ _, Below.refl _ _⟩
  subst h64
  have Hn := Lib.hid hn
  have Hr := Lib.hid hr
  have HL := Lib.hid (show (ptrs l).length = 32 by rw [length_ptrs, hn])
  cases hp : (ptrs l).all ptrB
  · rw [poiP_no hp]
    have HP := Lib.hid hp
    clear hn hr hp
    go_enter Try.func17, Try.ntmps17
    go_wp2_with (first
      | (go_at_call 35; (with_reducible refine (unpack_any l A 64 c 32 _ Hn.out Hr.out hc (by omega) (by omega)).mono ?_); rintro e w1 ⟨v1, he, hown1, hb1⟩; obtain rfl := he; rw [HL.out] at hown1; obtain ⟨_, A1, c1, hv1, hc1, hx1, hr1⟩ := own_rd hown1; subst hv1; have HR1 := Lib.hid hr1; have HB1 := Lib.hid hb1; clear hown1 hb1 hr1)
      | (go_at_call 33; (with_reducible refine (ptrs_any (ptrs l) A1 32 c1 _ _ HL.out HR1.out (by omega)).mono ?_); rintro e w2 ⟨he, hw2⟩; obtain rfl := he; obtain rfl := hw2; rw [HP.out]))
    go_ret2
    exact ⟨_, rfl, World.ownsRow_nil _ _ _ _, HB1.out⟩
  · rw [poiP_yes hn hp]
    have HP := Lib.hid hp
    clear hn hr hp
    go_enter Try.func17, Try.ntmps17
    go_wp2_with (first
      | (go_at_call 35; (with_reducible refine (unpack_any l A 64 c 32 _ Hn.out Hr.out hc (by omega) (by omega)).mono ?_); rintro e w1 ⟨v1, he, hown1, hb1⟩; obtain rfl := he; rw [HL.out] at hown1; have HO1 := Lib.hid hown1; obtain ⟨_, A1, c1, hv1, hc1, hx1, hr1⟩ := own_rd hown1; subst hv1; have HR1 := Lib.hid hr1; have HB1 := Lib.hid hb1; clear hown1 hb1 hr1)
      | (go_at_call 33; (with_reducible refine (ptrs_any (ptrs l) A1 32 c1 _ _ HL.out HR1.out (by omega)).mono ?_); rintro e w2 ⟨he, hw2⟩; obtain rfl := he; obtain rfl := hw2; rw [HP.out]))
    go_ret2
    exact ⟨_, rfl, by rw [HL.out]; exact HO1.out, HB1.out⟩

set_option maxHeartbeats 800000 in
theorem blo_any (l : List Int) (A : Option Addr) (n c : Nat) (w : World) (hn : l.length = n) (hr : Rd w w.heap.size A (intsV l)) :
    Calls Try.prog 22 #[.slice A n c] w fun e w' => HandsB w (bloP l).1 (bloP l).2 e w' := by
  by_cases h32 : n = 32
  rotate_left
  · have hP := bloP_len (l := l) (by omega)
    have hq : ((n : Int) != 32) = true := by simp; omega
    rw [hP]
    clear hn hr hP h32
    go_enter Try.func22, Try.ntmps22
    go_wp2
    go_ret2
    exact ⟨_, rfl, World.ownsRow_nil _ _ _ _, Below.refl _ _⟩
  subst h32
  have Hn := Lib.hid hn
  have Hr := Lib.hid hr
  cases hp : l.all ptrB
  · rw [bloP_no hp]
    have HP := Lib.hid hp
    clear hn hr hp
    go_enter Try.func22, Try.ntmps22
    go_wp2_with (go_at_call 33; (with_reducible refine (ptrs_any l A 32 c _ _ Hn.out Hr.out (by omega)).mono ?_); rintro e w2 ⟨he, hw2⟩; obtain rfl := he; obtain rfl := hw2; rw [HP.out])
    go_ret2
    exact ⟨_, rfl, World.ownsRow_nil _ _ _ _, Below.refl _ _⟩
  · rw [bloP_yes hn hp]
    have HP := Lib.hid hp
    have HS := Lib.hid (ptr_small hp)
    clear hn hr hp
    go_enter Try.func22, Try.ntmps22
    go_wp2_with (first
      | (go_at_call 33; (with_reducible refine (ptrs_any l A 32 c _ _ Hn.out Hr.out (by omega)).mono ?_); rintro e w2 ⟨he, hw2⟩; obtain rfl := he; obtain rfl := hw2; rw [HP.out])
      | (go_at_call 29; (with_reducible refine (pack_any l A 32 c _ Hn.out Hr.out HS.out (by omega)).mono ?_); rintro e w1 ⟨v1, he, hm1⟩; obtain rfl := he; have HM := Lib.hid hm1; clear hm1))
    go_ret2
    exact ⟨_, rfl, HM.out.1, HM.out.2⟩

set_option maxHeartbeats 800000 in
theorem rblo_any (l : List Int) (A : Option Addr) (n c : Nat) (w : World) (hn : l.length = n) (hr : Rd w w.heap.size A (intsV l)) :
    Calls Try.prog 23 #[.slice A n c] w fun e w' => HandsB w (bloP l).1 (bloP l).2 e w' := by
  by_cases h32 : n = 32
  rotate_left
  · have hP := bloP_len (l := l) (by omega)
    have hq : ((n : Int) != 32) = true := by simp; omega
    rw [hP]
    clear hn hr hP h32
    go_enter Try.func23, Try.ntmps23
    go_wp2
    go_ret2
    exact ⟨_, rfl, World.ownsRow_nil _ _ _ _, Below.refl _ _⟩
  subst h32
  obtain ⟨b, o, rfl, hb, hcc⟩ : ∃ b o, A = some ⟨b, o, none⟩ ∧ b < w.heap.size ∧ ∀ (j : Nat) (x : Int), l[j]? = some x → w.cell? ⟨b, o + j, none⟩ = some (.int .i64 x) := by
    rcases rd_ints hr with h | h
    · subst h; simp at hn
    · exact h
  have Hn := Lib.hid hn
  have Hr := Lib.hid hr
  have Hc := Lib.hid hcc
  obtain ⟨R, hR⟩ : ∃ R, R = bloP l := ⟨_, rfl⟩
  have HY := Lib.hid (fun h => hR.trans (bloP_yes hn h))
  have HN := Lib.hid (fun h => hR.trans (bloP_no (l := l) h))
  rw [← hR]
  clear hn hr hcc hR
  go_enter Try.func23, Try.ntmps23
  go_wp2
  go_loop [4] (fun i => ∃ k : Nat, k ≤ 32 ∧ i = .int .i64 (k : Int) ∧ Hid ((l.take k).all ptrB = true)) (fun i => 32 - (intOf i).toNat)
  case atStart => exact ⟨0, Nat.zero_le _, rfl, Lib.hid (by simp)⟩
  case round =>
    obtain ⟨k, hk, rfl, hall⟩ := hrel
    by_cases hlt : k < 32
    · obtain ⟨x, hx⟩ : ∃ x, l[k]? = some x := ⟨_, List.getElem?_eq_getElem (by rw [Hn.out]; exact hlt)⟩
      have c0 := Hc.out k x hx
      have Hx := Lib.hid hx
      have hk0 : (0 : Int) ≤ (k : Int) := Int.natCast_nonneg _
      have hk1 : (k : Int) < 32 := by omega
      clear hx
      cases hp : ptrB x
      · have Hp := Lib.hid (HN.out (all_bad Hx.out hp))
        have Hq := Lib.hid hp
        clear hp
        go_wp2_with (go_at_call 34; (with_reducible refine (ptr_any x _).mono ?_); rintro e w' ⟨he, hw'⟩; obtain rfl := he; obtain rfl := hw'; rw [Hq.out])
        go_ret2
        rw [Hp.out]
        exact ⟨_, rfl, World.ownsRow_nil _ _ _ _, Below.refl _ _⟩
      · have Hp := Lib.hid (all_step hall.out Hx.out hp)
        have Hq := Lib.hid hp
        clear hp
        go_wp2_with (go_at_call 34; (with_reducible refine (ptr_any x _).mono ?_); rintro e w' ⟨he, hw'⟩; obtain rfl := he; obtain rfl := hw'; rw [Hq.out])
        go_round
        case rel => exact ⟨k + 1, by omega, by go_num, Hp⟩
        case measure => simp [intOf]; omega
    · obtain rfl : k = 32 := by omega
      have e : l.all ptrB = true := by
        have := hall.out
        rwa [List.take_of_length_le (by rw [Hn.out]; exact Nat.le_refl _)] at this
      have HS := Lib.hid (ptr_small e)
      have Hp := Lib.hid (HY.out e)
      clear e
      go_wp2_with (go_at_call 30; (with_reducible refine (two_any l _ 32 c _ Hn.out Hr.out HS.out (by omega)).mono ?_); rintro e w1 ⟨v1, he, hm1⟩; obtain rfl := he; have HM := Lib.hid hm1; clear hm1)
      go_ret2
      rw [Hp.out]
      exact ⟨_, rfl, HM.out.1, HM.out.2⟩

/-- append onto an own row of ints. -/
theorem wpList_app33 (w : World) {ops : Array Oper} {rest : List Oper} {o : Oper} {a : Act} {Q : Exit → Act → World → Prop} (hgd : o.guard = none) (s x : Operand)
    (ho : o.op = .call { callee := .builtin .append, args := #[s, x], argTypes := #[33, 33] })
    (base : Nat) (v : Value) (n : Nat) (l : List Int) (hs : a.eval s = v) (hown : w.ownsRow base 3 1 v n (intsV l))
    (B : Nat) (A : Option Addr) (m c : Nat) (k : List Int) (hx : a.eval x = .slice A m c) (hm : k.length = m) (hr : Rd w B A (intsV k))
    (hbytes : n + m ≤ 1000000) (hbase : base ≤ w.heap.size)
    (h : ∀ v' w', w'.ownsRow base 3 1 v' (n + m) (intsV (l ++ k)) → w.grownBy w' v.ownBlock → wpList Try.prog ops Q rest (a.put o.dst v') w') : wpList Try.prog ops Q (o :: rest) a w := by
  obtain ⟨i0, hi, hz0, hz1, hz2⟩ := info_parts info3
  rw [intsV_append] at h
  exact wpList_app w hgd s x 33 ho base 3 i0 _ 8 Try.underlying33 hi hz0 hz1 hz2 rfl v n _ hs hown B A m c _ hx (by rw [length_intsV, hm]) hr (intsV_one k) (by simp only [maxLen]; omega) (by omega) hbase h
theorem rd_one (w : World) (x : Int) (t : TypeId) : Rd (w.alloc (.cells #[.int .i64 x] t)) (w.heap.size + 1) (some ⟨w.heap.size, 0, none⟩) (intsV [x]) := by
  refine .inr ⟨w.heap.size, 0, rfl, by omega, fun i u hu => ?_⟩
  rw [World.cell?_alloc_at _ _ _ _ rfl]
  cases i with
  | zero => simpa [intsV] using hu
  | succ i => simp [intsV] at hu
theorem at2 (l : List UInt8) (A : Option Addr) (n c B k : Nat) (w : World) (hn : l.length = n) (hr : Rd w B A (bytesV l)) (hs : k + 2 ≤ n) (hm : n ≤ 9223372036854775807) :
    Calls Try.prog 38 #[.slice A n c, .int .i64 (k : Int), .int .i64 2] w fun e w' => e = .returned (.int .u64 (numL l k : Nat)) ∧ w = w' :=
  at_any l A n c B k 2 w hn hr (by omega) (by omega) (by omega) hm

set_option maxHeartbeats 800000 in
theorem rpoi_any (l : List UInt8) (A : Option Addr) (n c : Nat) (w : World) (hn : l.length = n) (hr : Rd w w.heap.size A (bytesV l)) :
    Calls Try.prog 18 #[.slice A n c] w fun e w' => HandsI w (poiP l).1 (poiP l).2 e w' := by
  by_cases h64 : n = 64
  rotate_left
  · have hP := poiP_len (b := l) (by omega)
    have hq : ((n : Int) != 64) = true := by simp; omega
    rw [hP]
    clear hn hr hP h64
    go_enter Try.func18, Try.ntmps18
    go_wp2
    go_ret2
    exact ⟨_, rfl, World.ownsRow_nil _ _ _ _, Below.refl _ _⟩
  subst h64
  have Hn := Lib.hid hn
  have Hr := Lib.hid hr
  have HL := Lib.hid (show (ptrs l).length = 32 by rw [length_ptrs, hn])
  have HA := Lib.hid (fun (j : Nat) (hj : j < 32) => (by
    unfold ptrs
    rw [List.getElem?_map, getElem?_takel 2 l j (by omega)]
    rfl : (ptrs l)[j]? = some ((numL l (j * 2) : Nat) : Int)))
  obtain ⟨R, hR⟩ : ∃ R, R = poiP l := ⟨_, rfl⟩
  have HY := Lib.hid (fun h => hR.trans (poiP_yes hn h))
  have HN := Lib.hid (fun h => hR.trans (poiP_no (b := l) h))
  rw [← hR]
  clear hn hr hR
  go_enter Try.func18, Try.ntmps18
  go_wp2
  go_loopw [4, 5] (fun v i wr => ∃ k : Nat, k ≤ 32 ∧ i = .int .i64 (k : Int) ∧ Hid (((ptrs l).take k).all ptrB = true) ∧ wr.ownsRow w.heap.size 3 1 v k (intsV ((ptrs l).take k)) ∧ Below w.heap.size w wr) (fun _ i _ => 32 - (intOf i).toNat)
  case atStart => exact ⟨0, Nat.zero_le _, rfl, Lib.hid (by simp), World.ownsRow_nil _ _ _ _, Below.refl _ _⟩
  case round =>
    obtain ⟨k, hk, rfl, hall, hown, hbel⟩ := hrel
    by_cases hlt : k < 32
    · have hx := HA.out k hlt
      have hx6 := numL_lt l (k * 2)
      have AT := Lib.hid (fun w1 (h : Below w.heap.size w w1) => (by
        have := at2 l A 64 c _ (k * 2) w1 Hn.out (Hr.out.below h) (by omega) (by omega)
        rwa [Int.natCast_mul] at this : Calls Try.prog 38 #[.slice A 64 c, .int .i64 ((k : Int) * 2), .int .i64 2] w1 fun e w' => e = .returned (.int .u64 (numL l (k * 2) : Nat)) ∧ w1 = w'))
      generalize numL l (k * 2) = m at hx hx6 AT
      have Hx := Lib.hid hx
      have HO := Lib.hid hown
      have HB := Lib.hid hbel
      have hsz := hbel.size
      have e1 : IntKind.i64.wrap (m : Int) = (m : Int) := by rw [IntKind.wrap_i64]; omega
      have e2 : IntKind.i64.wrap (2 * (k : Int)) = (k : Int) * 2 := by rw [IntKind.wrap_i64]; omega
      have HW := Lib.hid (show (ptrs l).take (k + 1) = (ptrs l).take k ++ [(m : Int)] by
        obtain ⟨h1, h2⟩ := List.getElem?_eq_some_iff.1 Hx.out
        rw [List.take_succ_eq_append_getElem h1, h2])
      clear hx hown hbel
      cases hp : ptrB (m : Int)
      · have Hp := Lib.hid (HN.out (all_bad Hx.out hp))
        have Hq := Lib.hid hp
        clear hp
        go_wp2_with (first
          | (go_at_call 38; (with_reducible refine (AT.out _ HB.out).mono ?_); rintro e w' ⟨he, hw'⟩; obtain rfl := he; obtain rfl := hw')
          | (go_at_call 34; (with_reducible refine (ptr_any (m : Int) _).mono ?_); rintro e w' ⟨he, hw'⟩; obtain rfl := he; obtain rfl := hw'; rw [Hq.out]))
        go_ret2
        rw [Hp.out]
        exact ⟨_, rfl, World.ownsRow_nil _ _ _ _, HB.out⟩
      · have Hp := Lib.hid (all_step hall.out Hx.out hp)
        have Hq := Lib.hid hp
        clear hp
        go_wp2_with (first
          | (go_at_call 38; (with_reducible refine (AT.out _ HB.out).mono ?_); rintro e w' ⟨he, hw'⟩; obtain rfl := he; obtain rfl := hw')
          | (go_at_call 34; (with_reducible refine (ptr_any (m : Int) _).mono ?_); rintro e w' ⟨he, hw'⟩; obtain rfl := he; obtain rfl := hw'; rw [Hq.out])
          | (at_builtin; refine wpList_app33 _ rfl (.tmp 22) (.tmp 24) rfl w.heap.size _ k ((ptrs l).take k) rfl (HO.out.alloc _) (wr.heap.size + 1) _ 1 1 [(m : Int)] rfl rfl (rd_one wr m 3) (by omega) (by simp; omega) ?_; intro v4 w4 hown4 hg4; have HO4 := Lib.hid (show w4.ownsRow w.heap.size 3 1 v4 (k + 1) (intsV ((ptrs l).take (k + 1))) by (rw [HW.out]; exact hown4)); have HB4 := Lib.hid ((HB.out.alloc hsz _).grown hg4 (by simp; omega) (fun q hq => (HO.out.lt q hq).1)); clear hown4 hg4))
        go_roundw
        case rel => exact ⟨k + 1, by omega, by go_num, Hp, HO4.out, HB4.out⟩
        case measure => simp [intOf]; omega
    · obtain rfl : k = 32 := by omega
      have e : (ptrs l).take 32 = ptrs l := List.take_of_length_le (by rw [HL.out]; exact Nat.le_refl _)
      have e2 : (ptrs l).all ptrB = true := by
        have := hall.out
        rwa [e] at this
      rw [e] at hown
      have HO := Lib.hid hown
      have HB := Lib.hid hbel
      have Hp := Lib.hid (HY.out e2)
      clear e e2 hown hbel
      go_wp2
      go_ret2
      rw [Hp.out]
      exact ⟨_, rfl, by rw [HL.out]; exact HO.out, HB.out⟩
end Go.Proofs.Ytahpdnfnaimbnaa.Inode
