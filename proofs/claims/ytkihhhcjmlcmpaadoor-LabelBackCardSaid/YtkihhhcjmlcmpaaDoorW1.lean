/-
  The functions that list a label's categories, or take lists of categories, in package label and in the document's own answer: what each call returns, and what it leaves.
-/
import Derived.Test.YtkihhhcjmlcmpaaDoorW0
namespace Go.Proofs.YtkihhhcjmlcmpaaDoor
open Go.RowKit

def intV (n : Int) : Value := .int .i64 n
def intsV (l : List Int) : List Value := l.map intV
def natsV (l : List Nat) : List Value := l.map fun (n : Nat) => .int .i64 (n : Int)
theorem length_intsV (l : List Int) : (intsV l).length = l.length := by simp [intsV]
theorem length_natsV (l : List Nat) : (natsV l).length = l.length := by simp [natsV]
theorem natsV_append (l m : List Nat) : natsV (l ++ m) = natsV l ++ natsV m := by simp [natsV]
theorem natsV_ints (l : List Nat) : natsV l = intsV (l.map fun (n : Nat) => (n : Int)) := by simp [natsV, intsV, intV]
theorem info3 : (Tryd.prog.info? 3).map (fun i => (i.zero, i.size, i.bytes)) = some (some (.int .i64 0), 1, 8) := by kernel_rfl

/-- The label of numbers, and the error. -/
def ofA (l : List Int) : Nat := if l.all goodB then labOf (l.map Int.toNat) 0 else 0
def ofE (l : List Int) : Int := if l.all goodB then 0 else 1
theorem ofA_lt (l : List Int) : ofA l < 65536 := by
  unfold ofA
  split
  · rename_i h
    refine labOf_lt _ _ (by omega) fun k hk => ?_
    simp only [List.mem_map] at hk
    obtain ⟨x, hx, rfl⟩ := hk
    have := List.all_eq_true.1 h x hx
    simp only [goodB, decide_eq_true_eq] at this
    omega
  · omega
theorem ofA_bad (l : List Int) (k : Nat) (hk : k < l.length) (h : goodB l[k] = false) : ofA l = 0 ∧ ofE l = 1 := by
  have : l.all goodB = false := by
    rw [List.all_eq_false]
    exact ⟨l[k], List.getElem_mem hk, by simp [h]⟩
  simp [ofA, ofE, this]
theorem ret_two {a b c d : Int} (h1 : a = c) (h2 : b = d) : Ending.returned (.tuple #[.int .u16 a, .int .i64 b]) = .returned (.tuple #[.int .u16 c, .int .i64 d]) := by rw [h1, h2]

/-- What is known of the first numbers. -/
structure Took (l : List Int) (k a : Nat) : Prop where
  good : ∀ x ∈ l.take k, goodB x = true
  lab : a = labOf ((l.take k).map Int.toNat) 0
  lt : a < 65536
theorem Took.step {l : List Int} {k a m : Nat} (h : Took l k a) (hk : k < l.length) (hm : l[k] = (m : Int)) (h16 : m < 16) : Took l (k + 1) (wth a m) := by
  have e : l.take (k + 1) = l.take k ++ [l[k]] := List.take_succ_eq_append_getElem hk
  refine ⟨?_, ?_, wth_lt h.lt h16⟩
  · intro x hx
    rw [e] at hx
    rcases List.mem_append.1 hx with hx | hx
    · exact h.good x hx
    · simp only [List.mem_singleton] at hx
      rw [hx, hm]; simp [goodB]; omega
  · rw [e, List.map_append, labOf_append, ← h.lab, hm]
    rfl
theorem Took.done {l : List Int} {k a : Nat} (h : Took l k a) (hk : k = l.length) : ofA l = a ∧ ofE l = 0 := by
  subst hk
  obtain ⟨h1, h2, _⟩ := h
  rw [List.take_length] at h1 h2
  have : l.all goodB = true := List.all_eq_true.2 h1
  simp [ofA, ofE, this, h2]
theorem Took.start (l : List Int) : Took l 0 0 := ⟨by simp, by simp [labOf], by omega⟩

set_option maxHeartbeats 400000 in
theorem of_any (l : List Int) (A : Option Addr) (n c : Nat) (B : Nat) (w : World) (hn : l.length = n) (hr : Rd w B A (intsV l)) (hm : n ≤ 9223372036854775807) :
    Calls Tryd.prog 10 #[.slice A n c] w fun e w' => e = .returned (.tuple #[.int .u16 (ofA l : Nat), .int .i64 (ofE l)]) ∧ w = w' := by
  have hr2 : l = [] ∨ ∃ b o, A = some ⟨b, o, none⟩ ∧ ∀ (j : Nat) (x : Int), l[j]? = some x → w.cell? ⟨b, o + j, none⟩ = some (.int .i64 x) := by
    rcases hr with h | ⟨b, o, h1, h2, h3⟩
    · exact .inl (by simpa [intsV] using h)
    · exact .inr ⟨b, o, h1, fun j x hx => h3 j _ (by simp [intsV, intV, hx])⟩
  clear hr
  rcases hr2 with rfl | ⟨b, o, rfl, hc⟩
  · obtain rfl : n = 0 := by simpa using hn.symm
    clear hn
    go_enter Tryd.func10, Tryd.ntmps10
    go_wp2
    go_loop [4, 9] (fun x i => x = .int .u16 0 ∧ i = .int .i64 0) (fun _ _ => 0)
    case atStart => exact ⟨rfl, rfl⟩
    case round =>
      obtain ⟨rfl, rfl⟩ := hrel
      go_wp2
      go_ret2
      exact ⟨rfl, rfl⟩
  · have Hn := Lib.hid hn
    have Hc := Lib.hid hc
    clear hn hc
    go_enter Tryd.func10, Tryd.ntmps10
    go_wp2
    go_loop [4, 9] (fun x i => ∃ k : Nat, k ≤ n ∧ i = .int .i64 (k : Int) ∧ ∃ a : Nat, x = .int .u16 (a : Int) ∧ Took l k a) (fun _ i => n - (intOf i).toNat)
    case atStart => exact ⟨0, Nat.zero_le _, rfl, 0, rfl, Took.start l⟩
    case round =>
      obtain ⟨k, hk, rfl, a, rfl, ht⟩ := hrel
      by_cases hlt : k < n
      · have hkl : k < l.length := by rw [Hn.out]; exact hlt
        have hcell := Hc.out k _ (List.getElem?_eq_getElem hkl)
        have halt := ht.lt
        by_cases hg0 : 0 ≤ l[k]
        · obtain ⟨m, hm'⟩ : ∃ m : Nat, l[k] = (m : Int) := Int.eq_ofNat_of_zero_le hg0
          have Hm := Lib.hid hm'
          rw [hm'] at hcell
          clear hg0 hm'
          by_cases h16 : m < 16
          · go_wp2_with (go_at_call 28; refine (with_any _ _ _ halt h16).mono ?_; rintro e w' ⟨rfl, rfl⟩)
            go_round
            case rel => exact ⟨k + 1, by omega, by go_num, _, rfl, ht.step hkl Hm.out h16⟩
            case measure => simp [intOf]; omega
          · go_wp2
            go_ret2
            have hb : goodB l[k] = false := by rw [Hm.out]; simp [goodB]; omega
            obtain ⟨e1, e2⟩ := ofA_bad l k hkl hb
            exact ⟨ret_two (by rw [e1]; rfl) e2.symm, rfl⟩
        · have hb : goodB l[k] = false := by simp [goodB]; omega
          have Hb := Lib.hid (ofA_bad l k hkl hb)
          clear hb
          generalize l[k] = x at hcell hg0
          go_wp2
          go_ret2
          obtain ⟨e1, e2⟩ := Hb.out
          exact ⟨ret_two (by rw [e1]; rfl) e2.symm, rfl⟩
      · go_wp2
        go_ret2
        obtain ⟨e1, e2⟩ := ht.done (by rw [Hn.out]; omega)
        exact ⟨ret_two (by rw [e1]) e2.symm, rfl⟩

theorem bit_test (a j : Nat) (ha : a < 65536) : (bits .and .u16 ((a : Int) / 2 ^ j) 1 == 1) = a.testBit j := by
  have e : ((a : Int) / 2 ^ j) = ((a / 2 ^ j : Nat) : Int) := by simp
  have h := Nat.div_le_self a (2 ^ j)
  have e2 := u16_and_nat (a / 2 ^ j) 1 (by omega) (by omega)
  rw [nat_mask1] at e2
  rw [e, show (1 : Int) = ((1 : Nat) : Int) from rfl, e2, Nat.testBit_eq_decide_div_mod_eq, Bool.eq_iff_iff]
  simp
  omega

/-- append onto an own row of numbers. -/
theorem wpList_app3 (w : World) {ops : Array Oper} {rest : List Oper} {o : Oper} {a : Act} {Q : Exit → Act → World → Prop} (hgd : o.guard = none) (s x : Operand)
    (ho : o.op = .call { callee := .builtin .append, args := #[s, x], argTypes := #[22, 22] })
    (base : Nat) (v : Value) (n : Nat) (l : List Nat) (hs : a.eval s = v) (hown : w.ownsRow base 3 1 v n (natsV l))
    (B : Nat) (A : Option Addr) (m c : Nat) (k : List Nat) (hx : a.eval x = .slice A m c) (hm : k.length = m) (hr : Rd w B A (natsV k))
    (hbytes : n + m ≤ 1000000) (hbase : base ≤ w.heap.size)
    (h : ∀ v' w', w'.ownsRow base 3 1 v' (n + m) (natsV (l ++ k)) → w.grownBy w' v.ownBlock → wpList Tryd.prog ops Q rest (a.put o.dst v') w') : wpList Tryd.prog ops Q (o :: rest) a w := by
  obtain ⟨i0, hi, hz0, hz1, hz2⟩ := info_parts info3
  rw [natsV_append] at h
  exact wpList_app w hgd s x 22 ho base 3 i0 _ 8 Tryd.underlying22 hi hz0 hz1 hz2 rfl v n _ hs hown B A m c _ hx (by rw [length_natsV, hm]) hr (by
    intro u hu
    simp only [natsV, List.mem_map] at hu
    obtain ⟨b, _, rfl⟩ := hu
    rfl) (by simp only [maxLen]; omega) (by omega) hbase h
/-- A new block of one number, read. -/
theorem rd_one (w : World) (j : Nat) (t : TypeId) : Rd (w.alloc (.cells #[.int .i64 (j : Int)] t)) (w.heap.size + 1) (some ⟨w.heap.size, 0, none⟩) (natsV [j]) := by
  refine .inr ⟨w.heap.size, 0, rfl, by omega, fun i u hu => ?_⟩
  rw [World.cell?_alloc_at _ _ _ _ rfl]
  cases i with
  | zero => simpa [natsV] using hu
  | succ i => simp [natsV] at hu

/-- What a list of categories leaves: a new row. -/
def Listed (w : World) (l : List Nat) (v : Value) (w' : World) : Prop := w'.ownsRow w.heap.size 3 1 v l.length (natsV l) ∧ Below w.heap.size w w'
/-- What stands while a list grows. -/
def Listing (w : World) (a j : Nat) (x : Value) (wr : World) : Prop := ∃ n : Nat, n = (catsTo a j).length ∧ wr.ownsRow w.heap.size 3 1 x n (natsV (catsTo a j)) ∧ Below w.heap.size w wr
theorem Listing.start (w : World) (a : Nat) : Listing w a 0 (.slice none 0 0) w := ⟨0, rfl, World.ownsRow_nil _ _ _ _, Below.refl _ _⟩
theorem Listing.skip {w wr : World} {a j : Nat} {x : Value} (h : Listing w a j x wr) (hb : a.testBit j = false) : Listing w a (j + 1) x wr := by
  unfold Listing
  rw [catsTo_no hb]
  exact h
theorem Listing.add {w wr w1 : World} {a j n : Nat} {x b' : Value} (hb : a.testBit j = true) (hn : n = (catsTo a j).length) (hown : wr.ownsRow w.heap.size 3 1 x n (natsV (catsTo a j))) (hbel : Below w.heap.size w wr)
    (hown' : w1.ownsRow w.heap.size 3 1 b' (n + 1) (natsV (catsTo a j ++ [j]))) (hg' : (wr.alloc (.cells #[.int .i64 (j : Int)] 3)).grownBy w1 x.ownBlock) : Listing w a (j + 1) b' w1 := by
  have hsz := hbel.size
  refine ⟨n + 1, ?_, ?_, ?_⟩
  · rw [catsTo_yes hb, hn]; simp
  · rw [catsTo_yes hb]; exact hown'
  · exact (hbel.alloc hsz _).grown hg' (by simp; omega) (fun k hk => (hown.lt k hk).1)
theorem Listing.done {w wr : World} {a : Nat} {x : Value} (h : Listing w a 16 x wr) : Listed w (cats a) x wr := by
  obtain ⟨n, rfl, h1, h2⟩ := h
  exact ⟨h1, h2⟩

set_option maxHeartbeats 400000 in
theorem list_any (a : Nat) (w : World) (ha : a < 65536) :
    Calls Tryd.prog 14 #[.int .u16 (a : Int)] w fun e w' => ∃ v, e = .returned v ∧ Listed w (cats a) v w' := by
  go_enter Tryd.func14, Tryd.ntmps14
  go_wp2
  go_loopw [3, 5] (fun x i wr => ∃ j : Nat, j ≤ 16 ∧ i = .int .i64 (j : Int) ∧ Listing w a j x wr) (fun _ i _ => 16 - (intOf i).toNat)
  case atStart => exact ⟨0, by omega, rfl, Listing.start w a⟩
  case round =>
    obtain ⟨j, hj, rfl, hL⟩ := hrel
    by_cases hlt : j < 16
    · have ht := bit_test a j ha
      cases hb : a.testBit j
      · rw [hb] at ht
        have hL' := hL.skip hb
        clear hL hb
        go_wp2
        go_roundw
        case rel => exact ⟨j + 1, by omega, by go_num, hL'⟩
        case measure => simp [intOf]; omega
      · rw [hb] at ht
        obtain ⟨n, hn, hown, hbel⟩ := hL
        have hsz := hbel.size
        have hnl : n ≤ 16 := by rw [hn]; have := catsTo_length a j; omega
        have Hb := Lib.hid hb
        have Hn := Lib.hid hn
        clear hb hn
        go_wp2_with (at_builtin; refine wpList_app3 _ rfl (.tmp 13) (.tmp 15) rfl w.heap.size _ n (catsTo a j) rfl (hown.alloc _) (wr.heap.size + 1) _ 1 1 [j] rfl rfl (rd_one wr j 3) (by omega) (by simp; omega) ?_)
        intro b' w1 hown' hg'
        go_wp2
        go_roundw
        case rel => exact ⟨j + 1, by omega, by go_num, Listing.add Hb.out Hn.out hown hbel hown' hg'⟩
        case measure => simp [intOf]; omega
    · go_wp2
      go_ret
      obtain rfl : j = 16 := by omega
      exact ⟨_, rfl, hL.done⟩

set_option maxHeartbeats 400000 in
theorem rlist_any (a : Nat) (w : World) (ha : a < 65536) :
    Calls Tryd.prog 15 #[.int .u16 (a : Int)] w fun e w' => ∃ v, e = .returned v ∧ Listed w (cats a) v w' := by
  go_enter Tryd.func15, Tryd.ntmps15
  go_wp2
  go_loopw [3, 4] (fun x i wr => ∃ j : Nat, j ≤ 16 ∧ i = .int .i64 (j : Int) ∧ Listing w a j x wr) (fun _ i _ => 16 - (intOf i).toNat)
  case atStart => exact ⟨0, by omega, rfl, Listing.start w a⟩
  case round =>
    obtain ⟨j, hj, rfl, hL⟩ := hrel
    by_cases hlt : j < 16
    · cases hb : a.testBit j
      · have hL' := hL.skip hb
        have Hb := Lib.hid hb
        clear hL hb
        go_wp2_with (go_at_call 29; refine (has_any _ _ _ ha hlt).mono ?_; rintro e w' ⟨rfl, rfl⟩; rw [Hb.out])
        go_roundw
        case rel => exact ⟨j + 1, by omega, by go_num, hL'⟩
        case measure => simp [intOf]; omega
      · obtain ⟨n, hn, hown, hbel⟩ := hL
        have hsz := hbel.size
        have hnl : n ≤ 16 := by rw [hn]; have := catsTo_length a j; omega
        have Hb := Lib.hid hb
        have Hn := Lib.hid hn
        clear hb hn
        go_wp2_with (first | (at_builtin; refine wpList_app3 _ rfl (.tmp 12) (.tmp 14) rfl w.heap.size _ n (catsTo a j) rfl (hown.alloc _) (wr.heap.size + 1) _ 1 1 [j] rfl rfl (rd_one wr j 3) (by omega) (by simp; omega) ?_) | (go_at_call 29; refine (has_any _ _ _ ha hlt).mono ?_; rintro e w' ⟨rfl, rfl⟩; rw [Hb.out]))
        intro b' w1 hown' hg'
        go_wp2
        go_roundw
        case rel => exact ⟨j + 1, by omega, by go_num, Listing.add Hb.out Hn.out hown hbel hown' hg'⟩
        case measure => simp [intOf]; omega
    · go_wp2
      go_ret
      obtain rfl : j = 16 := by omega
      exact ⟨_, rfl, hL.done⟩

/-- What stands of a union. -/
def Union (a b j x : Nat) : Prop := x < 65536 ∧ ∀ k, x.testBit k = (decide (k < j) && (a.testBit k || b.testBit k))
theorem Union.skip {a b j x : Nat} (h : Union a b j x) (ha : a.testBit j = false) (hb : b.testBit j = false) : Union a b (j + 1) x := by
  refine ⟨h.1, fun k => ?_⟩
  rw [h.2]
  by_cases e : k = j
  · subst e; simp [ha, hb]
  · rw [show decide (k < j + 1) = decide (k < j) from decide_eq_decide.2 (by omega)]
theorem Union.new {a b j x : Nat} (h : Union a b j x) : x.testBit j = false := by rw [h.2]; simp
theorem Union.add {a b j x : Nat} (h : Union a b j x) (hj : j < 16) (hab : (a.testBit j || b.testBit j) = true) : Union a b (j + 1) (wth x j) := by
  refine ⟨wth_lt h.1 hj, fun k => ?_⟩
  rw [wth_bit, h.2]
  by_cases e : j = k
  · subst e; simp [hab]
  · rw [show decide (k < j + 1) = decide (k < j) from decide_eq_decide.2 (by omega)]; simp [e]
theorem Union.done {a b x : Nat} (h : Union a b 16 x) (ha : a < 65536) (hb : b < 65536) : x = a ||| b := by
  apply lab_ext h.1 (Nat.or_lt_two_pow (n := 16) ha hb)
  intro k hk
  rw [h.2, Nat.testBit_or]; simp [hk]
theorem Union.start (a b : Nat) : Union a b 0 0 := ⟨by omega, fun k => by simp⟩
/-- What stands of an intersection. -/
def Inter (a b j x : Nat) : Prop := x < 65536 ∧ ∀ k, x.testBit k = (decide (k < j) && (a.testBit k && b.testBit k))
theorem Inter.skip {a b j x : Nat} (h : Inter a b j x) (hab : (a.testBit j && b.testBit j) = false) : Inter a b (j + 1) x := by
  refine ⟨h.1, fun k => ?_⟩
  rw [h.2]
  by_cases e : k = j
  · subst e; simp [hab]
  · rw [show decide (k < j + 1) = decide (k < j) from decide_eq_decide.2 (by omega)]
theorem Inter.new {a b j x : Nat} (h : Inter a b j x) : x.testBit j = false := by rw [h.2]; simp
theorem Inter.add {a b j x : Nat} (h : Inter a b j x) (hj : j < 16) (hab : (a.testBit j && b.testBit j) = true) : Inter a b (j + 1) (wth x j) := by
  refine ⟨wth_lt h.1 hj, fun k => ?_⟩
  rw [wth_bit, h.2]
  by_cases e : j = k
  · subst e; simp [hab]
  · rw [show decide (k < j + 1) = decide (k < j) from decide_eq_decide.2 (by omega)]; simp [e]
theorem Inter.done {a b x : Nat} (h : Inter a b 16 x) (ha : a < 65536) : x = a &&& b := by
  apply lab_ext h.1 (Nat.lt_of_le_of_lt Nat.and_le_left ha)
  intro k hk
  rw [h.2, Nat.testBit_and]; simp [hk]
theorem Inter.start (a b : Nat) : Inter a b 0 0 := ⟨by omega, fun k => by simp⟩
/-- What stands of a test. -/
def Flown (a b j : Nat) : Prop := ∀ k, k < j → a.testBit k = true → b.testBit k = true
theorem Flown.no {a b j : Nat} (ha : a.testBit j = true) (hb : b.testBit j = false) : flowB a b = false := by
  rw [Bool.eq_false_iff]
  intro h
  rw [flowB_iff.1 h j ha] at hb
  cases hb
theorem Flown.step {a b j : Nat} (h : Flown a b j) (hab : a.testBit j = false ∨ b.testBit j = true) : Flown a b (j + 1) := by
  intro k hk hak
  by_cases e : k = j
  · subst e
    rcases hab with h | h
    · rw [h] at hak; cases hak
    · exact h
  · exact h k (by omega) hak
theorem Flown.done {a b : Nat} (h : Flown a b 16) (ha : a < 65536) : flowB a b = true := by
  rw [flowB_iff]
  intro k hk
  by_cases h16 : k < 16
  · exact h k h16 hk
  · rw [lab_bit ha (by omega)] at hk; cases hk

set_option maxHeartbeats 400000 in
theorem rjoin_any (a b : Nat) (w : World) (ha : a < 65536) (hb : b < 65536) :
    Calls Tryd.prog 19 #[.int .u16 (a : Int), .int .u16 (b : Int)] w fun e w' => e = .returned (.int .u16 (a ||| b : Nat)) ∧ w = w' := by
  go_enter Tryd.func19, Tryd.ntmps19
  go_wp2
  go_loop [5, 6] (fun x i => ∃ j : Nat, j ≤ 16 ∧ i = .int .i64 (j : Int) ∧ ∃ m : Nat, x = .int .u16 (m : Int) ∧ Union a b j m) (fun _ i => 16 - (intOf i).toNat)
  case atStart => exact ⟨0, by omega, rfl, 0, rfl, Union.start a b⟩
  case round =>
    obtain ⟨j, hj, rfl, m, rfl, hU⟩ := hrel
    by_cases hlt : j < 16
    · have hm := hU.1
      have Hnew := Lib.hid hU.new
      cases h1 : a.testBit j <;> cases h2 : b.testBit j
      · have hU' := hU.skip h1 h2
        have H1 := Lib.hid h1
        have H2 := Lib.hid h2
        clear h1 h2 hU
        go_wp2_with (go_at_call 29; refine (has_any _ _ _ (by omega) hlt).mono ?_; rintro e w' ⟨rfl, rfl⟩; first | rw [H1.out] | rw [H2.out])
        go_round
        case rel => exact ⟨j + 1, by omega, by go_num, _, rfl, hU'⟩
        case measure => simp [intOf]; omega
      all_goals
        have hU' := hU.add hlt (by simp [h1, h2])
        have H1 := Lib.hid h1
        have H2 := Lib.hid h2
        clear h1 h2 hU
        go_wp2_with (first | (go_at_call 29; refine (has_any _ _ _ (by omega) hlt).mono ?_; rintro e w' ⟨rfl, rfl⟩; first | rw [H1.out] | rw [H2.out]) | (go_at_call 30; refine (rwith_any _ _ _ hm hlt Hnew.out).mono ?_; rintro e w' ⟨rfl, rfl⟩))
        go_round
        case rel => exact ⟨j + 1, by omega, by go_num, _, rfl, hU'⟩
        case measure => simp [intOf]; omega
    · go_wp2
      go_ret
      obtain rfl : j = 16 := by omega
      exact ⟨ret_u16 (by rw [hU.done ha hb]), rfl⟩
set_option maxHeartbeats 400000 in
theorem rmeet_any (a b : Nat) (w : World) (ha : a < 65536) (hb : b < 65536) :
    Calls Tryd.prog 21 #[.int .u16 (a : Int), .int .u16 (b : Int)] w fun e w' => e = .returned (.int .u16 (a &&& b : Nat)) ∧ w = w' := by
  go_enter Tryd.func21, Tryd.ntmps21
  go_wp2
  go_loop [5, 6] (fun x i => ∃ j : Nat, j ≤ 16 ∧ i = .int .i64 (j : Int) ∧ ∃ m : Nat, x = .int .u16 (m : Int) ∧ Inter a b j m) (fun _ i => 16 - (intOf i).toNat)
  case atStart => exact ⟨0, by omega, rfl, 0, rfl, Inter.start a b⟩
  case round =>
    obtain ⟨j, hj, rfl, m, rfl, hU⟩ := hrel
    by_cases hlt : j < 16
    · have hm := hU.1
      have Hnew := Lib.hid hU.new
      cases h1 : a.testBit j <;> cases h2 : b.testBit j
      case true.true =>
        have hU' := hU.add hlt (by simp [h1, h2])
        have H1 := Lib.hid h1
        have H2 := Lib.hid h2
        clear h1 h2 hU
        go_wp2_with (first | (go_at_call 29; refine (has_any _ _ _ (by omega) hlt).mono ?_; rintro e w' ⟨rfl, rfl⟩; first | rw [H1.out] | rw [H2.out]) | (go_at_call 30; refine (rwith_any _ _ _ hm hlt Hnew.out).mono ?_; rintro e w' ⟨rfl, rfl⟩))
        go_round
        case rel => exact ⟨j + 1, by omega, by go_num, _, rfl, hU'⟩
        case measure => simp [intOf]; omega
      all_goals
        have hU' := hU.skip (by simp [h1, h2])
        have H1 := Lib.hid h1
        have H2 := Lib.hid h2
        clear h1 h2 hU
        go_wp2_with (go_at_call 29; refine (has_any _ _ _ (by omega) hlt).mono ?_; rintro e w' ⟨rfl, rfl⟩; first | rw [H1.out] | rw [H2.out])
        go_round
        case rel => exact ⟨j + 1, by omega, by go_num, _, rfl, hU'⟩
        case measure => simp [intOf]; omega
    · go_wp2
      go_ret
      obtain rfl : j = 16 := by omega
      exact ⟨ret_u16 (by rw [hU.done ha]), rfl⟩
set_option maxHeartbeats 400000 in
theorem rflows_any (a b : Nat) (w : World) (ha : a < 65536) (hb : b < 65536) :
    Calls Tryd.prog 17 #[.int .u16 (a : Int), .int .u16 (b : Int)] w fun e w' => e = .returned (.bool (flowB a b)) ∧ w = w' := by
  go_enter Tryd.func17, Tryd.ntmps17
  go_wp2
  go_loop [5] (fun i => ∃ j : Nat, j ≤ 16 ∧ i = .int .i64 (j : Int) ∧ Flown a b j) (fun i => 16 - (intOf i).toNat)
  case atStart => exact ⟨0, by omega, rfl, fun k hk => absurd hk (by omega)⟩
  case round =>
    obtain ⟨j, hj, rfl, hF⟩ := hrel
    by_cases hlt : j < 16
    · cases h1 : a.testBit j <;> cases h2 : b.testBit j
      case true.false =>
        have Hno := Lib.hid (Flown.no h1 h2)
        have H1 := Lib.hid h1
        have H2 := Lib.hid h2
        clear h1 h2 hF
        go_wp2_with (go_at_call 29; refine (has_any _ _ _ (by omega) hlt).mono ?_; rintro e w' ⟨rfl, rfl⟩; first | rw [H1.out] | rw [H2.out])
        go_ret
        exact ⟨ret_bool Hno.out.symm, rfl⟩
      all_goals
        have hF' := hF.step (by simp [h1, h2])
        have H1 := Lib.hid h1
        have H2 := Lib.hid h2
        clear h1 h2 hF
        go_wp2_with (go_at_call 29; refine (has_any _ _ _ (by omega) hlt).mono ?_; rintro e w' ⟨rfl, rfl⟩; first | rw [H1.out] | rw [H2.out])
        go_round
        case rel => exact ⟨j + 1, by omega, by go_num, hF'⟩
        case measure => simp [intOf]; omega
    · go_wp2
      go_ret
      obtain rfl : j = 16 := by omega
      exact ⟨ret_bool (hF.done ha).symm, rfl⟩
end Go.Proofs.YtkihhhcjmlcmpaaDoor
