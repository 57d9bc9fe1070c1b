/-
  Bytes that are sealed with their check sum, and opened, by the program and by the document's own answer: what each call returns.
-/
import Derived.Test.YtmbljobemfinjaaS2
import Derived.Test.YtmbljobemfinjaaW2
import Derived.BigQuiet
import Derived.Deep.QuietTactic
import Derived.Test.YtmbljobemfinjaaH
namespace Go.Proofs.Ytmbljobemfinjaa
open Go.RowKit

theorem str_of {w : World} {B : Nat} {A : Option Addr} {n c : Nat} {l : List UInt8} (hn : l.length = n) (hr : Rd w B A (bytesV l)) : (convert 23 9 (.slice A n c)).run Try.prog w = .ok (.string ⟨l.toArray⟩) w :=
  run_str w 23 9 5 Try.underlying23 Try.underlying5 Try.underlying9 B A n c l hn hr

theorem below_drewN {B : Nat} {a w : World} (h : Below B a w) (n : Nat) : Below B a (w.drewN n) := ⟨h.os, h.tape, h.output, h.size, h.block⟩
/-- Bytes with their check sum behind them. -/
def sealed (l : List UInt8) : List UInt8 := l ++ digs (sumOf l) 4
theorem length_sealed (l : List UInt8) : (sealed l).length = l.length + 4 := by simp [sealed, length_digs]
theorem sumOf_lt (l : List UInt8) : sumOf l < 4294967296 := sumMore_lt 1 l

set_option maxHeartbeats 400000 in
theorem seal_any (l : List UInt8) (A : Option Addr) (n c : Nat) (w : World) (hn : l.length = n) (hr : Rd w w.heap.size A (bytesV l)) (hc : n ≤ c) (hm : n ≤ 140737488355320) :
    Calls Try.prog 18 #[.slice A n c] w fun e w' => ∃ v, e = .returned v ∧ Made w (sealed l) v w' := by
  have hlt := sumOf_lt l
  have hf : ∀ x ∈ [sumOf l], fitB x 4 = true := by
    intro x hx
    simp only [List.mem_singleton] at hx
    subst hx
    simp [fitB]; omega
  have Hn := Lib.hid hn
  have Hf := Lib.hid hf
  clear hn hf
  obtain ⟨s, hs⟩ : ∃ s, s = sumOf l := ⟨_, rfl⟩
  have Hs := Lib.hid hs
  rw [← hs] at hlt Hf
  clear hs
  go_enter Try.func18, Try.ntmps18
  go_wp2_with (go_at_call 12; refine (of_any l A n c w.heap.size _ Hn.out hr (by omega)).mono ?_; rintro e w' ⟨rfl, rfl⟩; rw [← Hs.out])
  refine (lay_ok [s] _ 1 1 4 _ rfl ?_ (by omega) (by omega) ?_ Hf.out (by omega)).mono ?_
  · exact .inr ⟨w.heap.size, 0, rfl, by simp, fun j u hu => by
      rw [World.cell?_alloc_at _ _ _ _ rfl]
      cases j with
      | zero => simpa [numsV, numV] using hu
      | succ j => simp [numsV] at hu⟩
  · intro x hx
    simp only [List.mem_singleton] at hx
    omega
  rintro e w2 ⟨v, rfl, hown, hb2⟩
  have hl : layl 4 [s] = digs s 4 := by simp [layl]
  rw [hl, length_digs] at hown
  have hown2 := own_rd hown
  obtain ⟨_, A2, c2, rfl, hc2, _, hr2⟩ := hown2
  have hb1 : Below w.heap.size w w2 := (((Below.refl _ w).alloc (Nat.le_refl _) _).trans (hb2.mono (by simp)))
  have hr1 := hr.below hb1
  clear hl hown
  have hsz := hb1.size
  have Hpart : Hid (∀ u : World, Below w2.heap.size w2 u → ∀ p ∈ [((.slice A n c : Value), l), (.slice A2 4 c2, digs s 4)], Part u p) := by
    intro u hu p hp
    have hs := hu.size
    simp only [List.mem_cons, List.not_mem_nil, or_false] at hp
    rcases hp with rfl | rfl
    · exact ⟨A, n, c, rfl, Hn.out, hc, (hr1.more hsz |>.below hu).more hs⟩
    · exact ⟨A2, 4, c2, rfl, length_digs _ _, hc2, (hr2.below hu).more hs⟩
  clear hr1 hr2 hr
  have hal : Below w2.heap.size w2 (w2.alloc (.cells #[.slice A n c, .slice A2 4 c2] 23)) := (Below.refl _ w2).alloc (Nat.le_refl _) _
  have htot : total [((.slice A n c : Value), l), (.slice A2 4 c2, digs s 4)] = sealed l := by simp [total, sealed, Hs.out]
  have Htot := Lib.hid htot
  clear htot
  go_wp2_with fail
  refine (concat_any [((.slice A n c : Value), l), (.slice A2 4 c2, digs s 4)] _ 2 2 _ rfl ?_ (Hpart.out _ hal) ?_ (by omega)).mono ?_
  · exact .inr ⟨w2.heap.size, 0, rfl, by simp, fun j u hu => by
      match j, hu with
      | 0, hu => rw [World.cell?_alloc_at _ _ _ _ rfl]; simpa using hu
      | 1, hu => rw [World.cell?_alloc_at _ _ _ _ rfl]; simpa using hu
      | j + 2, hu => simp at hu⟩
  · rw [Htot.out, length_sealed, Hn.out]; omega
  rintro e w3 ⟨v, rfl, hown3, hb3⟩
  rw [Htot.out] at hown3
  go_wp2
  go_ret
  exact ⟨_, rfl, own_mono hown3 (by simp; omega), hb1.trans ((hal.mono hsz).trans (hb3.mono (by simp; omega)))⟩

set_option maxHeartbeats 400000 in
theorem rseal_any (l : List UInt8) (A : Option Addr) (n c : Nat) (w : World) (hn : l.length = n) (hr : Rd w w.heap.size A (bytesV l)) (hm : n ≤ 140737488355320) :
    Calls Try.prog 19 #[.slice A n c] w fun e w' => ∃ v, e = .returned v ∧ Made w (sealed l) v w' := by
  have hlt := sumOf_lt l
  have Hn := Lib.hid hn
  clear hn
  obtain ⟨s, hs⟩ : ∃ s, s = sumOf l := ⟨_, rfl⟩
  have Hs := Lib.hid hs
  rw [← hs] at hlt
  clear hs
  have hlit : (w.alloc (.cells #[] 5)).ownsRow w.heap.size 5 1 (.slice (some ⟨w.heap.size, 0, none⟩) 0 0) 0 (bytesV []) := World.ownsRow_lit w #[] 0 (Nat.le_refl _) (Nat.zero_le _) rfl
  have hal := (Below.refl _ w).alloc (Nat.le_refl _) (.cells #[] 5)
  have hr1 := hr.below hal
  go_enter Try.func19, Try.ntmps19
  go_wp2_with (at_builtin; refine wpList_app5 _ rfl (.tmp 4) (.tmp 5) rfl w.heap.size _ 0 [] rfl hlit w.heap.size A n c l rfl Hn.out hr1 (by omega) (by simp) ?_; intro v w1 hown hgrow)
  rw [Nat.zero_add, List.nil_append] at hown
  have hb1 := hal.grown hgrow (by simp) (fun k hk => (hlit.lt k hk).1)
  have hr2 := hr.below hb1
  have hz1 := hb1.size
  clear hlit hal hr1 hr
  go_wp2_with (first
    | (go_at_call 13; refine (rof_any l A n c w.heap.size _ Hn.out hr2 (by omega)).mono ?_; rintro e w' ⟨rfl, rfl⟩; rw [← Hs.out])
    | (go_at_call 24; refine (num_any s 4 _ (by omega) (by omega)).mono ?_; rintro e w2 ⟨v2, rfl, hown2, hb2⟩; obtain ⟨_, A2, c2, rfl, hc2, _, hr3⟩ := own_rd hown2)
    | (at_builtin; refine wpList_app5 _ rfl (.tmp 7) (.tmp 11) rfl w.heap.size _ n l rfl (own_below hown hb2) w2.heap.size A2 4 c2 (digs s 4) rfl (length_digs _ _) hr3 (by omega) (by have := hb2.size; omega) ?_; intro v3 w3 hown3 hgrow3))
  go_ret
  have hb3 := (hb1.trans (hb2.mono hz1)).grown hgrow3 (by have := hb2.size; omega) (fun k hk => (hown.lt k hk).1)
  rw [Hs.out] at hown3
  refine ⟨_, rfl, ?_, hb3⟩
  rw [length_sealed, Hn.out]
  exact hown3

/-- Whether bytes are sealed. -/
def opensB (l : List UInt8) : Bool := decide (4 ≤ l.length) && (l.drop (l.length - 4) == digs (sumOf (l.take (l.length - 4))) 4)
theorem opens_iff (l : List UInt8) : opensB l = true ↔ l = sealed (l.take (l.length - 4)) := by
  unfold opensB sealed
  simp only [Bool.and_eq_true, decide_eq_true_eq, beq_iff_eq]
  constructor
  · rintro ⟨_, h⟩
    conv => lhs; rw [← List.take_append_drop (l.length - 4) l, h]
  · intro h
    have hl := congrArg List.length h
    rw [List.length_append, length_digs, List.length_take] at hl
    refine ⟨by omega, ?_⟩
    have h' : l.take (l.length - 4) ++ l.drop (l.length - 4) = l.take (l.length - 4) ++ digs (sumOf (l.take (l.length - 4))) 4 := by rw [List.take_append_drop]; exact h
    exact List.append_cancel_left h'
theorem opens_sealed (l : List UInt8) : opensB (sealed l) = true := by
  rw [opens_iff, length_sealed, Nat.add_sub_cancel]
  congr 1
  rw [sealed, List.take_left]
theorem opens_le (l : List UInt8) (m : Nat) (h : l.length = m + 4) : opensB l = decide (le ((l.drop m).take 4) = sumOf (l.take m)) := by
  have hd : (l.drop m).length = 4 := by rw [List.length_drop]; omega
  unfold opensB
  rw [h, Nat.add_sub_cancel, List.take_of_length_le (l := l.drop m) (by omega)]
  have h4 : decide (4 ≤ m + 4) = true := decide_eq_true (by omega)
  rw [h4, Bool.true_and, Bool.eq_iff_iff, beq_iff_eq, decide_eq_true_eq]
  constructor
  · intro h'
    rw [h', le_digs_of_lt _ _ (by have := sumOf_lt (l.take m); omega)]
  · intro h'
    rw [← h', ← hd, digs_le]

set_option maxHeartbeats 400000 in
theorem open_yes (l : List UInt8) (A : Option Addr) (n c : Nat) (w : World) (hn : l.length = n) (hr : Rd w w.heap.size A (bytesV l)) (hc : n ≤ c) (hm : n ≤ 140737488355320) (ho : opensB l = true) :
    Calls Try.prog 16 #[.slice A n c] w fun e w' => ∃ v, e = .returned (.tuple #[v, .int .i64 0]) ∧ Made w (l.take (n - 4)) v w' := by
  have h4 : 4 ≤ n := by
    have h := (opens_iff l).1 ho
    have := congrArg List.length h
    rw [length_sealed] at this
    omega
  obtain ⟨m, rfl⟩ : ∃ m, n = m + 4 := ⟨n - 4, by omega⟩
  rw [opens_le l m hn, decide_eq_true_eq] at ho
  rw [Nat.add_sub_cancel]
  have hnil : ∃ ad, A = some ad := by
    rcases hr with h | ⟨b, o, rfl, _, _⟩
    · exfalso; have := congrArg List.length h; rw [length_bytesV] at this; simp at this; simp [this] at hn
    · exact ⟨_, rfl⟩
  obtain ⟨ad, rfl⟩ := hnil
  have hrt := hr.take m
  rw [← bytesV_take] at hrt
  have hlt : (l.take m).length = m := by rw [List.length_take]; omega
  have Hn := Lib.hid hn
  have Hlt := Lib.hid hlt
  have Ho := Lib.hid ho
  have hlt := sumOf_lt (l.take m)
  clear hn ho
  obtain ⟨s, hs⟩ : ∃ s, s = sumOf (l.take m) := ⟨_, rfl⟩
  have Hs := Lib.hid hs
  rw [← hs] at hlt Ho
  clear hs
  go_enter Try.func16, Try.ntmps16
  go_wp2_with (first
    | (go_at_call 20; refine (get_ok l (some ad) (m + 4) c w.heap.size m 4 _ Hn.out hr hc (by omega) (by omega) (by omega) (by omega)).mono ?_; rintro e w' ⟨rfl, rfl⟩; rw [Ho.out])
    | (go_at_call 12; refine (of_any (l.take m) (some ad) m c w.heap.size _ Hlt.out hrt (by omega)).mono ?_; rintro e w' ⟨rfl, rfl⟩; rw [← Hs.out])
    | (go_at_call 21; refine (clone_some (l.take m) ad m c _ Hlt.out hrt (by omega)).mono ?_; rintro e w2 ⟨v, rfl, hown, hb⟩))
  go_ret2
  refine ⟨_, rfl, ?_, hb⟩
  rw [Hlt.out]
  exact hown

set_option maxHeartbeats 400000 in
theorem open_no (l : List UInt8) (A : Option Addr) (n c : Nat) (w : World) (hn : l.length = n) (hr : Rd w w.heap.size A (bytesV l)) (hc : n ≤ c) (hm : n ≤ 140737488355320) (ho : opensB l = false) :
    Calls Try.prog 16 #[.slice A n c] w fun e w' => e = .returned (.tuple #[.slice none 0 0, .int .i64 30]) ∧ w = w' := by
  by_cases h4 : 4 ≤ n
  · obtain ⟨m, rfl⟩ : ∃ m, n = m + 4 := ⟨n - 4, by omega⟩
    rw [opens_le l m hn, decide_eq_false_iff_not] at ho
    have hrt := hr.take m
    rw [← bytesV_take] at hrt
    have hlt : (l.take m).length = m := by rw [List.length_take]; omega
    have Hn := Lib.hid hn
    have Hlt := Lib.hid hlt
    have hlt := sumOf_lt (l.take m)
    clear hn
    obtain ⟨s, hs⟩ : ∃ s, s = sumOf (l.take m) := ⟨_, rfl⟩
    have Hs := Lib.hid hs
    rw [← hs] at hlt ho
    clear hs
    have hne : (((le ((l.drop m).take 4) : Nat) : Int) != (s : Int)) = true := bne_iff_ne.2 (by omega)
    obtain ⟨t, ht⟩ : ∃ t, t = le ((l.drop m).take 4) := ⟨_, rfl⟩
    have Ht := Lib.hid ht
    rw [← ht] at hne
    clear ht ho
    go_enter Try.func16, Try.ntmps16
    go_wp2_with (first
      | (go_at_call 20; refine (get_ok l A (m + 4) c w.heap.size m 4 _ Hn.out hr hc (by omega) (by omega) (by omega) (by omega)).mono ?_; rintro e w' ⟨rfl, rfl⟩; rw [← Ht.out])
      | (go_at_call 12; refine (of_any (l.take m) A m c w.heap.size _ Hlt.out hrt (by omega)).mono ?_; rintro e w' ⟨rfl, rfl⟩; rw [← Hs.out]))
    go_ret2
    exact ⟨rfl, rfl⟩
  · clear hn hr ho
    go_enter Try.func16, Try.ntmps16
    go_wp2_with (go_at_call 20; refine (get_arg A n c ((n : Int) - 4) 4 _ (by omega) (by omega)).mono ?_; rintro e w' ⟨rfl, rfl⟩)
    go_ret2
    exact ⟨rfl, rfl⟩

set_option maxHeartbeats 400000 in
theorem ropen_short (A : Option Addr) (n c : Nat) (w : World) (h4 : ¬ 4 ≤ n) :
    Calls Try.prog 17 #[.slice A n c] w fun e w' => e = .returned (.tuple #[.slice none 0 0, .int .i64 30]) ∧ Below w.heap.size w w' := by
  have h5 : (n : Int) < 4 := by omega
  go_enter Try.func17, Try.ntmps17
  go_wp2
  go_quiet (fail)
  go_wp2
  go_ret2
  exact ⟨rfl, below_drewN (Below.refl _ _) _⟩

/-- What 'x[:m]' is. -/
theorem run_cut (A : Option Addr) (n c m : Nat) (hm : m ≤ c) (u : World) : (Instr.sliceAt 23 (.slice A n c) none (some (.int .i64 (m : Int))) none).run Try.prog u = .ok (.slice A m c) u := by
  have h1 : (0 : Int) ≤ (m : Int) := by omega
  have h2 : (m : Int) ≤ (c : Int) := by omega
  have ht := Try.underlying23
  obtain ⟨i0, hi, _⟩ := info_parts info5
  unfold Instr.sliceAt Instr.slice Instr.sliceBounds
  simp [run_underlying ht, go_sem, sizeOf, typeInfo, h1, h2, hi]

/-- What stays while calls make memory. -/
theorem keepX {w w1 w2 : World} {A : Option Addr} {n c : Nat} {l : List UInt8} (hn : l.length = n) (hb : Below w1.heap.size w1 w2)
    (h : Rd w1 w1.heap.size A (bytesV l) ∧ (convert 23 9 (.slice A n c)).run Try.prog w1 = .ok (.string ⟨l.toArray⟩) w1 ∧ Below w.heap.size w w1) :
    Rd w2 w2.heap.size A (bytesV l) ∧ (convert 23 9 (.slice A n c)).run Try.prog w2 = .ok (.string ⟨l.toArray⟩) w2 ∧ Below w.heap.size w w2 := by
  obtain ⟨h1, _, h3⟩ := h
  have h4 := (h1.below hb).more hb.size
  exact ⟨h4, str_of hn h4, h3.trans (hb.mono h3.size)⟩

set_option maxRecDepth 100000 in
set_option maxHeartbeats 800000 in
theorem ropen_yes (l : List UInt8) (A : Option Addr) (n c : Nat) (w : World) (hn : l.length = n) (hr : Rd w w.heap.size A (bytesV l)) (hc : n ≤ c) (hm : n ≤ 140737488355320) (ho : opensB l = true) :
    Calls Try.prog 17 #[.slice A n c] w fun e w' => e = .returned (.tuple #[.slice A (n - 4) c, .int .i64 0]) ∧ Below w.heap.size w w' := by
  have hse := (opens_iff l).1 ho
  have h4 : 4 ≤ n := by
    have := congrArg List.length hse
    rw [length_sealed] at this
    omega
  obtain ⟨m, rfl⟩ : ∃ m, n = m + 4 := ⟨n - 4, by omega⟩
  rw [hn, Nat.add_sub_cancel] at hse
  rw [Nat.add_sub_cancel]
  have hrt := hr.take m
  rw [← bytesV_take] at hrt
  have hlt : (l.take m).length = m := by rw [List.length_take]; omega
  have Hn := Lib.hid hn
  have Hlt := Lib.hid hlt
  have Hse := Lib.hid hse
  have HS := Lib.hid (keepX (w := w) (w2 := w.drew) (c := c) hn (Below.refl _ w).drew ⟨hr, str_of hn hr, Below.refl _ _⟩)
  clear hn hlt hse ho hr
  have h1 : IntKind.i64.wrap ((m : Int) + 4 - 4) = (m : Int) := by rw [IntKind.wrap_i64]; omega
  have h2 : decide ((m : Int) + 4 < 4) = false := decide_eq_false (by omega)
  have hcut := run_cut A (m + 4) c m (by omega)
  go_enter Try.func17, Try.ntmps17
  go_wp2
  have h9 : IntKind.i64.wrap (m : Int) = (m : Int) := by rw [IntKind.wrap_i64]; omega
  refine wp_region_held_drew (S := fun w' => Rd w' w'.heap.size A (bytesV l) ∧ (convert 23 9 (.slice A (m + 4) c)).run Try.prog w' = .ok (.string ⟨l.toArray⟩) w' ∧ Below w.heap.size w w') (by kernel_rfl) HS.out (fun hHeld => ?_)
  refine wpAnyH_take (i := 0) (oi := _) (v := ?_) (by simp only [List.getElem?_toArray, List.getElem?_cons_zero]; rfl) (by kernel_rfl) (by kernel_rfl) (by kernel_rfl) (by exact fun _ _ _ h => h) (Or.inl ⟨by rfl, ?hya0⟩) (by assumption) ?rea0
  case hya0 => (intro w hSw; (try dsimp only at hSw); go_simp <;> with_reducible rfl)
  try simp only [Act.put, List.setIfInBounds_toArray, List.set_cons_zero, List.set_cons_succ]
  refine wpAnyH_take (i := 1) (oi := _) (v := ?_) (by simp only [List.getElem?_toArray, List.getElem?_cons_succ, List.getElem?_cons_zero]; rfl) (by kernel_rfl) (by kernel_rfl) (by kernel_rfl) (by exact fun _ _ _ h => h) (Or.inl ⟨by rfl, ?hya1⟩) (by assumption) ?rea1
  case hya1 => (intro w hSw; (try dsimp only at hSw); go_simp <;> with_reducible rfl)
  try simp only [Act.put, List.setIfInBounds_toArray, List.set_cons_zero, List.set_cons_succ]
  refine wpAnyH_take (i := 2) (oi := _) (v := ?_) (by simp only [List.getElem?_toArray, List.getElem?_cons_succ, List.getElem?_cons_zero]; rfl) (by kernel_rfl) (by kernel_rfl) (by kernel_rfl) (by exact fun _ _ _ h => h) (Or.inl ⟨by rfl, ?hya2⟩) (by assumption) ?rea2
  case hya2 => (intro w hSw; (try dsimp only at hSw); go_simp <;> with_reducible rfl)
  try simp only [Act.put, List.setIfInBounds_toArray, List.set_cons_zero, List.set_cons_succ]
  refine wpAnyH_take (i := 3) (oi := _) (v := ?_) (by simp only [List.getElem?_toArray, List.getElem?_cons_succ, List.getElem?_cons_zero]; rfl) (by kernel_rfl) (by kernel_rfl) (by kernel_rfl) (by exact fun _ _ _ h => h) (Or.inl ⟨by rfl, ?hya3⟩) (by assumption) ?rea3
  case hya3 => (intro w hSw; (try dsimp only at hSw); go_simp <;> with_reducible rfl)
  try simp only [Act.put, List.setIfInBounds_toArray, List.set_cons_zero, List.set_cons_succ]
  refine wpAnyH_take (i := 4) (oi := _) (v := ?_) (by simp only [List.getElem?_toArray, List.getElem?_cons_succ, List.getElem?_cons_zero]; rfl) (by kernel_rfl) (by kernel_rfl) (by kernel_rfl) (by exact fun _ _ _ h => h) (Or.inl ⟨by rfl, ?hya4⟩) (by assumption) ?rea4
  case hya4 => (intro w hSw; (try dsimp only at hSw); go_simp <;> with_reducible rfl)
  try simp only [Act.put, List.setIfInBounds_toArray, List.set_cons_zero, List.set_cons_succ]
  refine wpAnyH_take (i := 5) (oi := _) (v := ?_) (by simp only [List.getElem?_toArray, List.getElem?_cons_succ, List.getElem?_cons_zero]; rfl) (by kernel_rfl) (by kernel_rfl) (by kernel_rfl) (by exact fun _ _ _ h => h) (Or.inl ⟨by rfl, ?hya5⟩) (by assumption) ?rea5
  case hya5 => (intro w hSw; (try dsimp only at hSw); go_simp <;> with_reducible rfl)
  try simp only [Act.put, List.setIfInBounds_toArray, List.set_cons_zero, List.set_cons_succ]
  refine wpAnyH_take (i := 6) (oi := _) (v := ?_) (by simp only [List.getElem?_toArray, List.getElem?_cons_succ, List.getElem?_cons_zero]; rfl) (by kernel_rfl) (by kernel_rfl) (by kernel_rfl) (by exact fun _ _ _ h => h) (Or.inl ⟨by rfl, ?hya6⟩) (by assumption) ?rea6
  case hya6 => (intro w hSw; (try dsimp only at hSw); go_simp <;> with_reducible rfl)
  try simp only [Act.put, List.setIfInBounds_toArray, List.set_cons_zero, List.set_cons_succ]
  refine wpAnyH_take (i := 7) (oi := _) (v := ?_) (by simp only [List.getElem?_toArray, List.getElem?_cons_succ, List.getElem?_cons_zero]; rfl) (by kernel_rfl) (by kernel_rfl) (by kernel_rfl) (by exact fun _ _ _ h => h) (Or.inl ⟨by rfl, ?hya7⟩) (by assumption) ?rea7
  case hya7 => (intro w hSw; (try dsimp only at hSw); go_simp <;> with_reducible rfl)
  try simp only [Act.put, List.setIfInBounds_toArray, List.set_cons_zero, List.set_cons_succ]
  refine wpAnyH_take (i := 8) (oi := _) (v := ?_) (by simp only [List.getElem?_toArray, List.getElem?_cons_succ, List.getElem?_cons_zero]; rfl) (by kernel_rfl) (by kernel_rfl) (by kernel_rfl) (by exact fun _ _ _ h => h) (Or.inl ⟨by rfl, ?hya8⟩) (by assumption) ?rea8
  case hya8 => (intro w hSw; (try dsimp only at hSw); go_simp <;> with_reducible rfl)
  try simp only [Act.put, List.setIfInBounds_toArray, List.set_cons_zero, List.set_cons_succ]
  refine wpAnyH_take (i := 11) (oi := _) (v := ?_) (by simp only [List.getElem?_toArray, List.getElem?_cons_succ, List.getElem?_cons_zero]; rfl) (by kernel_rfl) (by kernel_rfl) (by kernel_rfl) (by exact fun _ _ _ h => h) (Or.inl ⟨by rfl, ?hya11⟩) (by assumption) ?rea11
  case hya11 => (intro w hSw; (try dsimp only at hSw); go_simp <;> with_reducible rfl)
  try simp only [Act.put, List.setIfInBounds_toArray, List.set_cons_zero, List.set_cons_succ]
  refine wpAnyH_take (i := 12) (oi := _) (v := ?_) (by simp only [List.getElem?_toArray, List.getElem?_cons_succ, List.getElem?_cons_zero]; rfl) (by kernel_rfl) (by kernel_rfl) (by kernel_rfl) (by exact fun _ _ _ h => h) (Or.inl ⟨by rfl, ?hya12⟩) (by assumption) ?rea12
  case hya12 => (intro w hSw; (try dsimp only at hSw); go_simp <;> with_reducible rfl)
  try simp only [Act.put, List.setIfInBounds_toArray, List.set_cons_zero, List.set_cons_succ]
  refine wpAnyH_ready (rs := [9]) (by kernel_rfl) (by simp) ?_
  refine AllReadyH.cons (o := _) (by simp only [List.getElem?_toArray, List.getElem?_cons_succ, List.getElem?_cons_zero]; rfl) (fun K hK => ?_) AllReadyH.nil
  go_simp
  refine (rseal_any (l.take m) A m c _ Hlt.out (by rw [bytesV_take]; exact Rd.take HS.out.1 m) (by omega)).mono ?_
  rintro e w2 ⟨v, rfl, hown, hb⟩
  obtain ⟨_, A2, c2, rfl, hc2, _, hr2⟩ := own_rd hown
  rw [← Hse.out] at hr2
  have hs2 := str_of (c := c2) (congrArg List.length Hse.out) hr2
  have hB := (keepX Hn.out hb HS.out).2.2
  go_simp
  refine hK.out _ _ (keepX Hn.out hb HS.out) (fun hHeld2 => ?_)
  refine held_strong (T := fun u => u = w2) (by rintro _ rfl; exact hHeld2) _ _ _ _ ?_
  clear hK K hHeld
  refine wpAnyH_take (i := 10) (oi := _) (v := ?_) (by simp only [List.getElem?_toArray, List.getElem?_cons_succ, List.getElem?_cons_zero]; rfl) (by kernel_rfl) (by kernel_rfl) (by kernel_rfl) (by exact fun _ _ _ h => h) (Or.inl ⟨by rfl, ?hya10⟩) (by exact rfl) ?rea10
  case hya10 => (rintro w rfl; go_simp <;> with_reducible rfl)
  try simp only [Act.put, List.setIfInBounds_toArray, List.set_cons_zero, List.set_cons_succ]
  refine wpAnyH_take (i := 13) (oi := _) (v := ?_) (by simp only [List.getElem?_toArray, List.getElem?_cons_succ, List.getElem?_cons_zero]; rfl) (by kernel_rfl) (by kernel_rfl) (by kernel_rfl) (by exact fun _ _ _ h => h) (Or.inl ⟨by rfl, ?hya13⟩) (by exact rfl) ?rea13
  case hya13 => (rintro w rfl; go_simp <;> with_reducible rfl)
  try simp only [Act.put, List.setIfInBounds_toArray, List.set_cons_zero, List.set_cons_succ]
  refine wpAnyH_take (i := 14) (oi := _) (v := ?_) (by simp only [List.getElem?_toArray, List.getElem?_cons_succ, List.getElem?_cons_zero]; rfl) (by kernel_rfl) (by kernel_rfl) (by kernel_rfl) (by exact fun _ _ _ h => h) (Or.inl ⟨by rfl, ?hya14⟩) (by exact rfl) ?rea14
  case hya14 => (rintro w rfl; go_simp <;> with_reducible rfl)
  try simp only [Act.put, List.setIfInBounds_toArray, List.set_cons_zero, List.set_cons_succ]
  refine wpAnyH_done (by kernel_rfl) ?_ _
  go_wp2
  go_ret2
  exact ⟨rfl, hB⟩

set_option maxRecDepth 100000 in
set_option maxHeartbeats 800000 in
theorem ropen_no (l : List UInt8) (A : Option Addr) (n c : Nat) (w : World) (hn : l.length = n) (hr : Rd w w.heap.size A (bytesV l)) (hc : n ≤ c) (hm : n ≤ 140737488355320) (ho : opensB l = false) :
    Calls Try.prog 17 #[.slice A n c] w fun e w' => e = .returned (.tuple #[.slice none 0 0, .int .i64 30]) ∧ Below w.heap.size w w' := by
  by_cases h4 : 4 ≤ n
  · have hse : ¬ l = sealed (l.take (l.length - 4)) := fun h => by rw [(opens_iff l).2 h] at ho; cases ho
    obtain ⟨m, rfl⟩ : ∃ m, n = m + 4 := ⟨n - 4, by omega⟩
    rw [hn, Nat.add_sub_cancel] at hse
    have hrt := hr.take m
    rw [← bytesV_take] at hrt
    have hlt : (l.take m).length = m := by rw [List.length_take]; omega
    have Hn := Lib.hid hn
    have Hlt := Lib.hid hlt
    have hne : (sealed (l.take m) == l) = false := beq_eq_false_iff_ne.2 fun h => hse h.symm
    have HS := Lib.hid (keepX (w := w) (w2 := w.drew) (c := c) hn (Below.refl _ w).drew ⟨hr, str_of hn hr, Below.refl _ _⟩)
    clear hn hlt hse ho hr
    have h1 : IntKind.i64.wrap ((m : Int) + 4 - 4) = (m : Int) := by rw [IntKind.wrap_i64]; omega
    have h2 : decide ((m : Int) + 4 < 4) = false := decide_eq_false (by omega)
    have hcut := run_cut A (m + 4) c m (by omega)
    have h9 : IntKind.i64.wrap (m : Int) = (m : Int) := by rw [IntKind.wrap_i64]; omega
    go_enter Try.func17, Try.ntmps17
    go_wp2
    refine wp_region_held_drew (S := fun w' => Rd w' w'.heap.size A (bytesV l) ∧ (convert 23 9 (.slice A (m + 4) c)).run Try.prog w' = .ok (.string ⟨l.toArray⟩) w' ∧ Below w.heap.size w w') (by kernel_rfl) HS.out (fun hHeld => ?_)
    refine wpAnyH_take (i := 0) (oi := _) (v := ?_) (by simp only [List.getElem?_toArray, List.getElem?_cons_zero]; rfl) (by kernel_rfl) (by kernel_rfl) (by kernel_rfl) (by exact fun _ _ _ h => h) (Or.inl ⟨by rfl, ?hyb0⟩) (by assumption) ?reb0
    case hyb0 => (intro w hSw; (try dsimp only at hSw); go_simp <;> with_reducible rfl)
    try simp only [Act.put, List.setIfInBounds_toArray, List.set_cons_zero, List.set_cons_succ]
    refine wpAnyH_take (i := 1) (oi := _) (v := ?_) (by simp only [List.getElem?_toArray, List.getElem?_cons_succ, List.getElem?_cons_zero]; rfl) (by kernel_rfl) (by kernel_rfl) (by kernel_rfl) (by exact fun _ _ _ h => h) (Or.inl ⟨by rfl, ?hyb1⟩) (by assumption) ?reb1
    case hyb1 => (intro w hSw; (try dsimp only at hSw); go_simp <;> with_reducible rfl)
    try simp only [Act.put, List.setIfInBounds_toArray, List.set_cons_zero, List.set_cons_succ]
    refine wpAnyH_take (i := 2) (oi := _) (v := ?_) (by simp only [List.getElem?_toArray, List.getElem?_cons_succ, List.getElem?_cons_zero]; rfl) (by kernel_rfl) (by kernel_rfl) (by kernel_rfl) (by exact fun _ _ _ h => h) (Or.inl ⟨by rfl, ?hyb2⟩) (by assumption) ?reb2
    case hyb2 => (intro w hSw; (try dsimp only at hSw); go_simp <;> with_reducible rfl)
    try simp only [Act.put, List.setIfInBounds_toArray, List.set_cons_zero, List.set_cons_succ]
    refine wpAnyH_take (i := 3) (oi := _) (v := ?_) (by simp only [List.getElem?_toArray, List.getElem?_cons_succ, List.getElem?_cons_zero]; rfl) (by kernel_rfl) (by kernel_rfl) (by kernel_rfl) (by exact fun _ _ _ h => h) (Or.inl ⟨by rfl, ?hyb3⟩) (by assumption) ?reb3
    case hyb3 => (intro w hSw; (try dsimp only at hSw); go_simp <;> with_reducible rfl)
    try simp only [Act.put, List.setIfInBounds_toArray, List.set_cons_zero, List.set_cons_succ]
    refine wpAnyH_take (i := 4) (oi := _) (v := ?_) (by simp only [List.getElem?_toArray, List.getElem?_cons_succ, List.getElem?_cons_zero]; rfl) (by kernel_rfl) (by kernel_rfl) (by kernel_rfl) (by exact fun _ _ _ h => h) (Or.inl ⟨by rfl, ?hyb4⟩) (by assumption) ?reb4
    case hyb4 => (intro w hSw; (try dsimp only at hSw); go_simp <;> with_reducible rfl)
    try simp only [Act.put, List.setIfInBounds_toArray, List.set_cons_zero, List.set_cons_succ]
    refine wpAnyH_take (i := 5) (oi := _) (v := ?_) (by simp only [List.getElem?_toArray, List.getElem?_cons_succ, List.getElem?_cons_zero]; rfl) (by kernel_rfl) (by kernel_rfl) (by kernel_rfl) (by exact fun _ _ _ h => h) (Or.inl ⟨by rfl, ?hyb5⟩) (by assumption) ?reb5
    case hyb5 => (intro w hSw; (try dsimp only at hSw); go_simp <;> with_reducible rfl)
    try simp only [Act.put, List.setIfInBounds_toArray, List.set_cons_zero, List.set_cons_succ]
    refine wpAnyH_take (i := 6) (oi := _) (v := ?_) (by simp only [List.getElem?_toArray, List.getElem?_cons_succ, List.getElem?_cons_zero]; rfl) (by kernel_rfl) (by kernel_rfl) (by kernel_rfl) (by exact fun _ _ _ h => h) (Or.inl ⟨by rfl, ?hyb6⟩) (by assumption) ?reb6
    case hyb6 => (intro w hSw; (try dsimp only at hSw); go_simp <;> with_reducible rfl)
    try simp only [Act.put, List.setIfInBounds_toArray, List.set_cons_zero, List.set_cons_succ]
    refine wpAnyH_take (i := 7) (oi := _) (v := ?_) (by simp only [List.getElem?_toArray, List.getElem?_cons_succ, List.getElem?_cons_zero]; rfl) (by kernel_rfl) (by kernel_rfl) (by kernel_rfl) (by exact fun _ _ _ h => h) (Or.inl ⟨by rfl, ?hyb7⟩) (by assumption) ?reb7
    case hyb7 => (intro w hSw; (try dsimp only at hSw); go_simp <;> with_reducible rfl)
    try simp only [Act.put, List.setIfInBounds_toArray, List.set_cons_zero, List.set_cons_succ]
    refine wpAnyH_take (i := 8) (oi := _) (v := ?_) (by simp only [List.getElem?_toArray, List.getElem?_cons_succ, List.getElem?_cons_zero]; rfl) (by kernel_rfl) (by kernel_rfl) (by kernel_rfl) (by exact fun _ _ _ h => h) (Or.inl ⟨by rfl, ?hyb8⟩) (by assumption) ?reb8
    case hyb8 => (intro w hSw; (try dsimp only at hSw); go_simp <;> with_reducible rfl)
    try simp only [Act.put, List.setIfInBounds_toArray, List.set_cons_zero, List.set_cons_succ]
    refine wpAnyH_take (i := 11) (oi := _) (v := ?_) (by simp only [List.getElem?_toArray, List.getElem?_cons_succ, List.getElem?_cons_zero]; rfl) (by kernel_rfl) (by kernel_rfl) (by kernel_rfl) (by exact fun _ _ _ h => h) (Or.inl ⟨by rfl, ?hyb11⟩) (by assumption) ?reb11
    case hyb11 => (intro w hSw; (try dsimp only at hSw); go_simp <;> with_reducible rfl)
    try simp only [Act.put, List.setIfInBounds_toArray, List.set_cons_zero, List.set_cons_succ]
    refine wpAnyH_take (i := 12) (oi := _) (v := ?_) (by simp only [List.getElem?_toArray, List.getElem?_cons_succ, List.getElem?_cons_zero]; rfl) (by kernel_rfl) (by kernel_rfl) (by kernel_rfl) (by exact fun _ _ _ h => h) (Or.inl ⟨by rfl, ?hyb12⟩) (by assumption) ?reb12
    case hyb12 => (intro w hSw; (try dsimp only at hSw); go_simp <;> with_reducible rfl)
    try simp only [Act.put, List.setIfInBounds_toArray, List.set_cons_zero, List.set_cons_succ]
    refine wpAnyH_ready (rs := [9]) (by kernel_rfl) (by simp) ?_
    refine AllReadyH.cons (o := _) (by simp only [List.getElem?_toArray, List.getElem?_cons_succ, List.getElem?_cons_zero]; rfl) (fun K hK => ?_) AllReadyH.nil
    go_simp
    refine (rseal_any (l.take m) A m c _ Hlt.out (by rw [bytesV_take]; exact Rd.take HS.out.1 m) (by omega)).mono ?_
    rintro e w2 ⟨v, rfl, hown, hb⟩
    obtain ⟨_, A2, c2, rfl, hc2, _, hr2⟩ := own_rd hown
    have hs2 := str_of (c := c2) rfl hr2
    have hB := (keepX Hn.out hb HS.out).2.2
    go_simp
    refine hK.out _ _ (keepX Hn.out hb HS.out) (fun hHeld2 => ?_)
    refine held_strong (T := fun u => u = w2) (by rintro _ rfl; exact hHeld2) _ _ _ _ ?_
    clear hK K hHeld
    refine wpAnyH_take (i := 10) (oi := _) (v := ?_) (by simp only [List.getElem?_toArray, List.getElem?_cons_succ, List.getElem?_cons_zero]; rfl) (by kernel_rfl) (by kernel_rfl) (by kernel_rfl) (by exact fun _ _ _ h => h) (Or.inl ⟨by rfl, ?hyb10⟩) (by exact rfl) ?reb10
    case hyb10 => (rintro w rfl; go_simp <;> with_reducible rfl)
    try simp only [Act.put, List.setIfInBounds_toArray, List.set_cons_zero, List.set_cons_succ]
    refine wpAnyH_take (i := 13) (oi := _) (v := ?_) (by simp only [List.getElem?_toArray, List.getElem?_cons_succ, List.getElem?_cons_zero]; rfl) (by kernel_rfl) (by kernel_rfl) (by kernel_rfl) (by exact fun _ _ _ h => h) (Or.inl ⟨by rfl, ?hyb13⟩) (by exact rfl) ?reb13
    case hyb13 => (rintro w rfl; go_simp <;> with_reducible rfl)
    try simp only [Act.put, List.setIfInBounds_toArray, List.set_cons_zero, List.set_cons_succ]
    refine wpAnyH_take (i := 14) (oi := _) (v := ?_) (by simp only [List.getElem?_toArray, List.getElem?_cons_succ, List.getElem?_cons_zero]; rfl) (by kernel_rfl) (by kernel_rfl) (by kernel_rfl) (by exact fun _ _ _ h => h) (Or.inl ⟨by rfl, ?hyb14⟩) (by exact rfl) ?reb14
    case hyb14 => (rintro w rfl; go_simp <;> with_reducible rfl)
    try simp only [Act.put, List.setIfInBounds_toArray, List.set_cons_zero, List.set_cons_succ]
    refine wpAnyH_done (by kernel_rfl) ?_ _
    go_wp2
    go_ret2
    exact ⟨rfl, hB⟩
  · exact ropen_short A n c w h4
end Go.Proofs.Ytmbljobemfinjaa
