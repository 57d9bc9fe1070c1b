/-
  Bytes that are sealed with their check sum, and opened, by the program and by the document's own answer: what each call returns.
-/
import Derived.Test.YtcedpmakomhigaaS2
import Derived.Test.YtcedpmakomhigaaW2
import Derived.BigQuiet
import Derived.Deep.QuietTactic
import Derived.Test.YtcedpmakomhigaaH
namespace Go.Proofs.Ytcedpmakomhigaa
open Go.RowKit

theorem str_of {w : World} {B : Nat} {A : Option Addr} {n c : Nat} {l : List UInt8} (hn : l.length = n) (hr : Rd w B A (bytesV l)) : (convert 35 9 (.slice A n c)).run Try.prog w = .ok (.string ⟨l.toArray⟩) w :=
  run_str w 35 9 5 Try.underlying35 Try.underlying5 Try.underlying9 B A n c l hn hr

theorem below_drewN {B : Nat} {a w : World} (h : Below B a w) (n : Nat) : Below B a (w.drewN n) := ⟨h.os, h.tape, h.output, h.size, h.block⟩
/-- Bytes with their check sum behind them. -/
def sealed (l : List UInt8) : List UInt8 := l ++ digs (sumOf l) 4
theorem length_sealed (l : List UInt8) : (sealed l).length = l.length + 4 := by simp [sealed, length_digs]
theorem sumOf_lt (l : List UInt8) : sumOf l < 4294967296 := sumMore_lt 1 l

set_option maxHeartbeats 400000 in
theorem seal_any (l : List UInt8) (A : Option Addr) (n c : Nat) (w : World) (hn : l.length = n) (hr : Rd w w.heap.size A (bytesV l)) (hc : n ≤ c) (hm : n ≤ 140737488355320) :
    Calls Try.prog 26 #[.slice A n c] w fun e w' => ∃ v, e = .returned v ∧ Made w (sealed l) v w' := by
  have hlt := sumOf_lt l
  have hf : ∀ x ∈ [sumOf l], fitB x 4 = true := by
    intro x hx
    simp only [List.mem_singleton] at hx
    subst hx
    simp [fitB]; omega
  have Hn := Lib.hid hn
  have Hf := Lib.hid hf
  clear hn hf
  obtain ⟨s, hs⟩ : ∃ s, s = sumOf l := ⟨_, rfl⟩
  have Hs := Lib.hid hs
  rw [← hs] at hlt Hf
  clear hs
  go_enter Try.func26, Try.ntmps26
  go_wp2_with (go_at_call 38; refine (of_any l A n c w.heap.size _ Hn.out hr (by omega)).mono ?_; rintro e w' ⟨rfl, rfl⟩; rw [← Hs.out])
  refine (lay_ok [s] _ 1 1 4 _ rfl ?_ (by omega) (by omega) ?_ Hf.out (by omega)).mono ?_
  · exact .inr ⟨w.heap.size, 0, rfl, by simp, fun j u hu => by
      rw [World.cell?_alloc_at _ _ _ _ rfl]
      cases j with
      | zero => simpa [numsV, numV] using hu
      | succ j => simp [numsV] at hu⟩
  · intro x hx
    simp only [List.mem_singleton] at hx
    omega
  rintro e w2 ⟨v, rfl, hown, hb2⟩
  have hl : layl 4 [s] = digs s 4 := by simp [layl]
  rw [hl, length_digs] at hown
  have hown2 := own_rd hown
  obtain ⟨_, A2, c2, rfl, hc2, _, hr2⟩ := hown2
  have hb1 : Below w.heap.size w w2 := (((Below.refl _ w).alloc (Nat.le_refl _) _).trans (hb2.mono (by simp)))
  have hr1 := hr.below hb1
  clear hl hown
  have hsz := hb1.size
  have Hpart : Hid (∀ u : World, Below w2.heap.size w2 u → ∀ p ∈ [((.slice A n c : Value), l), (.slice A2 4 c2, digs s 4)], Part u p) := by
    intro u hu p hp
    have hs := hu.size
    simp only [List.mem_cons, List.not_mem_nil, or_false] at hp
    rcases hp with rfl | rfl
    · exact ⟨A, n, c, rfl, Hn.out, hc, (hr1.more hsz |>.below hu).more hs⟩
    · exact ⟨A2, 4, c2, rfl, length_digs _ _, hc2, (hr2.below hu).more hs⟩
  clear hr1 hr2 hr
  have hal : Below w2.heap.size w2 (w2.alloc (.cells #[.slice A n c, .slice A2 4 c2] 35)) := (Below.refl _ w2).alloc (Nat.le_refl _) _
  have htot : total [((.slice A n c : Value), l), (.slice A2 4 c2, digs s 4)] = sealed l := by simp [total, sealed, Hs.out]
  have Htot := Lib.hid htot
  clear htot
  go_wp2_with fail
  refine (concat_any [((.slice A n c : Value), l), (.slice A2 4 c2, digs s 4)] _ 2 2 _ rfl ?_ (Hpart.out _ hal) ?_ (by omega)).mono ?_
  · exact .inr ⟨w2.heap.size, 0, rfl, by simp, fun j u hu => by
      match j, hu with
      | 0, hu => rw [World.cell?_alloc_at _ _ _ _ rfl]; simpa using hu
      | 1, hu => rw [World.cell?_alloc_at _ _ _ _ rfl]; simpa using hu
      | j + 2, hu => simp at hu⟩
  · rw [Htot.out, length_sealed, Hn.out]; omega
  rintro e w3 ⟨v, rfl, hown3, hb3⟩
  rw [Htot.out] at hown3
  go_wp2
  go_ret
  exact ⟨_, rfl, own_mono hown3 (by simp; omega), hb1.trans ((hal.mono hsz).trans (hb3.mono (by simp; omega)))⟩

set_option maxHeartbeats 400000 in
theorem rseal_any (l : List UInt8) (A : Option Addr) (n c : Nat) (w : World) (hn : l.length = n) (hr : Rd w w.heap.size A (bytesV l)) (hm : n ≤ 140737488355320) :
    Calls Try.prog 29 #[.slice A n c] w fun e w' => ∃ v, e = .returned v ∧ Made w (sealed l) v w' := by
  have hlt := sumOf_lt l
  have Hn := Lib.hid hn
  clear hn
  obtain ⟨s, hs⟩ : ∃ s, s = sumOf l := ⟨_, rfl⟩
  have Hs := Lib.hid hs
  rw [← hs] at hlt
  clear hs
  have hlit : (w.alloc (.cells #[] 5)).ownsRow w.heap.size 5 1 (.slice (some ⟨w.heap.size, 0, none⟩) 0 0) 0 (bytesV []) := World.ownsRow_lit w #[] 0 (Nat.le_refl _) (Nat.zero_le _) rfl
  have hal := (Below.refl _ w).alloc (Nat.le_refl _) (.cells #[] 5)
  have hr1 := hr.below hal
  go_enter Try.func29, Try.ntmps29
  go_wp2_with (at_builtin; refine wpList_app5 _ rfl (.tmp 4) (.tmp 5) rfl w.heap.size _ 0 [] rfl hlit w.heap.size A n c l rfl Hn.out hr1 (by omega) (by simp) ?_; intro v w1 hown hgrow)
  rw [Nat.zero_add, List.nil_append] at hown
  have hb1 := hal.grown hgrow (by simp) (fun k hk => (hlit.lt k hk).1)
  have hr2 := hr.below hb1
  have hz1 := hb1.size
  clear hlit hal hr1 hr
  go_wp2_with (first
    | (go_at_call 39; refine (rof_any l A n c w.heap.size _ Hn.out hr2 (by omega)).mono ?_; rintro e w' ⟨rfl, rfl⟩; rw [← Hs.out])
    | (go_at_call 27; refine (num_any s 4 _ (by omega) (by omega)).mono ?_; rintro e w2 ⟨v2, rfl, hown2, hb2⟩; obtain ⟨_, A2, c2, rfl, hc2, _, hr3⟩ := own_rd hown2)
    | (at_builtin; refine wpList_app5 _ rfl (.tmp 7) (.tmp 11) rfl w.heap.size _ n l rfl (own_below hown hb2) w2.heap.size A2 4 c2 (digs s 4) rfl (length_digs _ _) hr3 (by omega) (by have := hb2.size; omega) ?_; intro v3 w3 hown3 hgrow3))
  go_ret
  have hb3 := (hb1.trans (hb2.mono hz1)).grown hgrow3 (by have := hb2.size; omega) (fun k hk => (hown.lt k hk).1)
  rw [Hs.out] at hown3
  refine ⟨_, rfl, ?_, hb3⟩
  rw [length_sealed, Hn.out]
  exact hown3

/-- Whether bytes are sealed. -/
def opensB (l : List UInt8) : Bool := decide (4 ≤ l.length) && (l.drop (l.length - 4) == digs (sumOf (l.take (l.length - 4))) 4)
theorem opens_iff (l : List UInt8) : opensB l = true ↔ l = sealed (l.take (l.length - 4)) := by
  unfold opensB sealed
  simp only [Bool.and_eq_true, decide_eq_true_eq, beq_iff_eq]
  constructor
  · rintro ⟨_, h⟩
    conv => lhs; rw [← List.take_append_drop (l.length - 4) l, h]
  · intro h
    have hl := congrArg List.length h
    rw [List.length_append, length_digs, List.length_take] at hl
    refine ⟨by omega, ?_⟩
    have h' : l.take (l.length - 4) ++ l.drop (l.length - 4) = l.take (l.length - 4) ++ digs (sumOf (l.take (l.length - 4))) 4 := by rw [List.take_append_drop]; exact h
    exact List.append_cancel_left h'
theorem opens_sealed (l : List UInt8) : opensB (sealed l) = true := by
  rw [opens_iff, length_sealed, Nat.add_sub_cancel]
  congr 1
  rw [sealed, List.take_left]
theorem opens_le (l : List UInt8) (m : Nat) (h : l.length = m + 4) : opensB l = decide (le ((l.drop m).take 4) = sumOf (l.take m)) := by
  have hd : (l.drop m).length = 4 := by rw [List.length_drop]; omega
  unfold opensB
  rw [h, Nat.add_sub_cancel, List.take_of_length_le (l := l.drop m) (by omega)]
  have h4 : decide (4 ≤ m + 4) = true := decide_eq_true (by omega)
  rw [h4, Bool.true_and, Bool.eq_iff_iff, beq_iff_eq, decide_eq_true_eq]
  constructor
  · intro h'
    rw [h', le_digs_of_lt _ _ (by have := sumOf_lt (l.take m); omega)]
  · intro h'
    rw [← h', ← hd, digs_le]

/-- What 'x[:m]' is. -/
theorem run_cut (A : Option Addr) (n c m : Nat) (hm : m ≤ c) (u : World) : (Instr.sliceAt 35 (.slice A n c) none (some (.int .i64 (m : Int))) none).run Try.prog u = .ok (.slice A m c) u := by
  have h1 : (0 : Int) ≤ (m : Int) := by omega
  have h2 : (m : Int) ≤ (c : Int) := by omega
  have ht := Try.underlying35
  obtain ⟨i0, hi, _⟩ := info_parts info5
  unfold Instr.sliceAt Instr.slice Instr.sliceBounds
  simp [run_underlying ht, go_sem, sizeOf, typeInfo, h1, h2, hi]

/-- What stays while calls make memory. -/
theorem keepX {w w1 w2 : World} {A : Option Addr} {n c : Nat} {l : List UInt8} (hn : l.length = n) (hb : Below w1.heap.size w1 w2)
    (h : Rd w1 w1.heap.size A (bytesV l) ∧ (convert 35 9 (.slice A n c)).run Try.prog w1 = .ok (.string ⟨l.toArray⟩) w1 ∧ Below w.heap.size w w1) :
    Rd w2 w2.heap.size A (bytesV l) ∧ (convert 35 9 (.slice A n c)).run Try.prog w2 = .ok (.string ⟨l.toArray⟩) w2 ∧ Below w.heap.size w w2 := by
  obtain ⟨h1, _, h3⟩ := h
  have h4 := (h1.below hb).more hb.size
  exact ⟨h4, str_of hn h4, h3.trans (hb.mono h3.size)⟩

end Go.Proofs.Ytcedpmakomhigaa
