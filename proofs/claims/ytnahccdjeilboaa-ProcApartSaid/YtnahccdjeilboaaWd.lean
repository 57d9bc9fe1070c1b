/-
  The acts that came in, the first few of them, and what is done.
  No condition is set.
-/
import Derived.Test.YtnahccdjeilboaaWn
namespace Go.Proofs.Ytnahccdjeilboaa.Prc
open Go.RowKit Apart
attribute [local go_sem ↓] Go.wp_at_zero Go.wp_at_succ

structure Act.Good (a : Act) : Prop where
  kind : a.kind < 256
  label : a.label < 65536
/-- Its cells. -/
def Act.cells (a : Act) : List Value := [.int .u8 (a.kind : Int), .int .i64 a.p, .int .i64 a.fd, .int .i64 a.n, .int .u16 (a.label : Int)]
/-- A slice of them. -/
def Acts (w : World) (B : Nat) (A : Option Addr) (l : List Act) : Prop :=
  l = [] ∨ ∃ b o, A = some ⟨b, o, none⟩ ∧ b < B ∧ ∀ i a, l[i]? = some a → a.Good ∧ ∀ j u, a.cells[j]? = some u → w.cell? ⟨b, o + i * 5 + j, none⟩ = some u
theorem Acts.below {w w' : World} {B : Nat} {A : Option Addr} {l : List Act} (h : Acts w B A l) (hb : Below B w w') : Acts w' B A l := by
  rcases h with h | ⟨b, o, h1, h2, h3⟩
  · exact .inl h
  · exact .inr ⟨b, o, h1, h2, fun i a hi => ⟨(h3 i a hi).1, fun j u hu => (hb.cell h2).trans ((h3 i a hi).2 j u hu)⟩⟩
theorem Acts.at {w : World} {B : Nat} {A : Option Addr} {l : List Act} (h : Acts w B A l) {i : Nat} (hi : i < l.length) : ∃ b o a, A = some ⟨b, o, none⟩ ∧ b < B ∧ l[i]? = some a ∧ a.Good ∧
    w.cell? ⟨b, o + i * 5, none⟩ = some (.int .u8 (a.kind : Int)) ∧ w.cell? ⟨b, o + i * 5 + 1, none⟩ = some (.int .i64 a.p) ∧ w.cell? ⟨b, o + i * 5 + 2, none⟩ = some (.int .i64 a.fd) ∧ w.cell? ⟨b, o + i * 5 + 3, none⟩ = some (.int .i64 a.n) ∧ w.cell? ⟨b, o + i * 5 + 4, none⟩ = some (.int .u16 (a.label : Int)) := by
  rcases h with rfl | ⟨b, o, h1, h2, h3⟩
  · simp at hi
  · obtain ⟨hg, hc⟩ := h3 i _ (List.getElem?_eq_getElem hi)
    exact ⟨b, o, _, h1, h2, List.getElem?_eq_getElem hi, hg, hc 0 _ rfl, hc 1 _ rfl, hc 2 _ rfl, hc 3 _ rfl, hc 4 _ rfl⟩

set_option maxHeartbeats 400000 in
theorem few_any (n c : Nat) (A : Option Addr) (w : World) (hc : n ≤ c) (hm : c ≤ 9223372036854775807) :
    Calls Try.prog 11 #[.slice A n c] w fun e w' => e = .returned (.slice A (min n 200) c) ∧ w = w' := by
  obtain ⟨q, hq⟩ : ∃ q : Nat, min (n : Int) 200 = (q : Int) := ⟨min n 200, by omega⟩
  have hq2 : Hid (min n 200 = q) := (by omega : min n 200 = q)
  have hqn : q ≤ n := by omega
  rw [hq2.out]
  go_enter Try.func11, Try.ntmps11
  go_wp2
  all_goals
    go_ret
    have h9 := hq2.out
    refine ⟨show Ending.returned (Value.slice A _ c) = _ from congrArg (fun z => Ending.returned (Value.slice A z c)) ?_, rfl⟩
    omega

section
variable {w : World} {b r : Nat} {t : Tb} {P : Nat → Prop}
theorem raise_c (h : TabA b t P w) (hb : Bd P w) (ht : t.Ok) (p : Int) (a : Nat) (ha : a < 65536) :
    Calls Try.prog 23 #[.pointer (some ⟨b, 0, none⟩), .int .i64 p, .int .u16 (a : Int)] w fun e w' => e = .returned (.int .i64 (raiseA t p a).1) ∧ Nx (TabA b (raiseA t p a).2) P w w' := by
  obtain ⟨G, h1, h2⟩ := h
  exact raise_any h1 h2 hb ht p a ha
theorem open_c (h : TabA b t P w) (hb : Bd P w) (ht : t.Ok) (p i : Int) :
    Calls Try.prog 21 #[.pointer (some ⟨b, 0, none⟩), .int .i64 p, .int .i64 i] w fun e w' => e = .returned (.tuple #[.int .i64 (openA t p i).1, .int .i64 (openA t p i).2.1]) ∧ Nx (TabA b (openA t p i).2.2) P w w' := by
  obtain ⟨G, h1, h2⟩ := h
  exact open_any h1 h2 hb ht p i
theorem close_c (h : TabA b t P w) (hb : Bd P w) (ht : t.Ok) (p i : Int) :
    Calls Try.prog 22 #[.pointer (some ⟨b, 0, none⟩), .int .i64 p, .int .i64 i] w fun e w' => e = .returned (.tuple #[.int .i64 (closeA t p i).1, .int .i64 (closeA t p i).2.1]) ∧ Nx (TabA b (closeA t p i).2.2) P w w' := by
  obtain ⟨G, h1, h2⟩ := h
  exact close_any h1 h2 hb ht p i
theorem move_c (h : TabA b t P w) (hb : Bd P w) (ht : t.Ok) (p i a : Int) :
    Calls Try.prog 24 #[.pointer (some ⟨b, 0, none⟩), .int .i64 p, .int .i64 i, .int .i64 a] w fun e w' => e = .returned (.int .i64 (moveA t p i a).1) ∧ Nx (TabA b (moveA t p i a).2) P w w' := by
  obtain ⟨G, h1, h2⟩ := h
  exact move_any h1 h2 hb ht p i a
set_option maxHeartbeats 800000 in
theorem does_any (h : TabA b t P w) (hb : Bd P w) (ht : t.Ok) (a : Act) (ha : a.Good) :
    Calls Try.prog 12 #[.pointer (some ⟨b, 0, none⟩), .agg a.cells.toArray] w fun e w' => e = .returned (.tuple #[.int .i64 (doesA t a).1, .int .i64 (doesA t a).2.1]) ∧ Nx (TabA b (doesA t a).2.2) P w w' := by
  obtain ⟨k, p, fd, n, l⟩ := a
  obtain ⟨hk, hl⟩ := ha
  have hk : k < 256 := hk
  have hl : l < 65536 := hl
  have hN := Lib.hid (Nx.below h (tab_lcl b t) hb ((Below.refl w.heap.size w).alloc (Nat.le_refl _) (.cells #[.int .u8 (k : Int), .int .i64 p, .int .i64 fd, .int .i64 n, .int .u16 (l : Int)] 35)))
  have h4 : k % 4 = 0 ∨ k % 4 = 1 ∨ k % 4 = 2 ∨ k % 4 = 3 := by omega
  clear h hb hk
  show Calls Try.prog 12 #[.pointer (some ⟨b, 0, none⟩), .agg #[.int .u8 (k : Int), .int .i64 p, .int .i64 fd, .int .i64 n, .int .u16 (l : Int)]] w _
  rcases h4 with h | h | h | h
  · have e1 : doesA t ⟨k, p, fd, n, l⟩ = (0, raiseA t p l) := by simp [doesA, h]
    rw [e1]
    have h5 : (k : Int) % 4 = 0 := by omega
    clear e1 h
    go_enter Try.func12, Try.ntmps12
    go_wp2_with (go_at_call 23; refine (hN.out.call fun _ h1 h2 => raise_c h1 h2 ht p l hl).mono ?_; rintro e w' ⟨rfl, hx⟩; have HX := Lib.hid hx; clear hx)
    go_ret2
    exact ⟨rfl, HX.out⟩
  · have e1 : doesA t ⟨k, p, fd, n, l⟩ = openA t p n := by simp [doesA, h]
    rw [e1]
    have h5 : (k : Int) % 4 = 1 := by omega
    clear e1 h
    go_enter Try.func12, Try.ntmps12
    go_wp2_with (go_at_call 21; refine (hN.out.call fun _ h1 h2 => open_c h1 h2 ht p n).mono ?_; rintro e w' ⟨rfl, hx⟩; have HX := Lib.hid hx; clear hx)
    go_ret2
    exact ⟨rfl, HX.out⟩
  · have e1 : doesA t ⟨k, p, fd, n, l⟩ = closeA t p fd := by simp [doesA, h]
    rw [e1]
    have h5 : (k : Int) % 4 = 2 := by omega
    clear e1 h
    go_enter Try.func12, Try.ntmps12
    go_wp2_with (go_at_call 22; refine (hN.out.call fun _ h1 h2 => close_c h1 h2 ht p fd).mono ?_; rintro e w' ⟨rfl, hx⟩; have HX := Lib.hid hx; clear hx)
    go_ret2
    exact ⟨rfl, HX.out⟩
  · have e1 : doesA t ⟨k, p, fd, n, l⟩ = (0, moveA t p fd n) := by simp [doesA, h]
    rw [e1]
    have h5 : (k : Int) % 4 = 3 := by omega
    clear e1 h
    go_enter Try.func12, Try.ntmps12
    go_wp2_with (go_at_call 24; refine (hN.out.call fun _ h1 h2 => move_c h1 h2 ht p fd n).mono ?_; rintro e w' ⟨rfl, hx⟩; have HX := Lib.hid hx; clear hx)
    go_ret2
    exact ⟨rfl, HX.out⟩
set_option maxHeartbeats 800000 in
theorem model_any (h : RefA b r t P w) (hb : Bd P w) (ht : t.Ok) (a : Act) (ha : a.Good) :
    Calls Try.prog 13 #[.pointer (some ⟨b, 0, none⟩), .agg a.cells.toArray] w fun e w' => e = .returned (.tuple #[.int .i64 (doesA t a).1, .int .i64 (doesA t a).2.1]) ∧ Nx (RefA b r (doesA t a).2.2) P w w' := by
  obtain ⟨k, p, fd, n, l⟩ := a
  obtain ⟨hk, hl⟩ := ha
  have hk : k < 256 := hk
  have hl : l < 65536 := hl
  have hN := Lib.hid (Nx.below h (ref_lcl b r t) hb ((Below.refl w.heap.size w).alloc (Nat.le_refl _) (.cells #[.int .u8 (k : Int), .int .i64 p, .int .i64 fd, .int .i64 n, .int .u16 (l : Int)] 35)))
  have h4 : k % 4 = 0 ∨ k % 4 = 1 ∨ k % 4 = 2 ∨ k % 4 = 3 := by omega
  clear h hb hk
  show Calls Try.prog 13 #[.pointer (some ⟨b, 0, none⟩), .agg #[.int .u8 (k : Int), .int .i64 p, .int .i64 fd, .int .i64 n, .int .u16 (l : Int)]] w _
  rcases h4 with h | h | h | h
  · have e1 : doesA t ⟨k, p, fd, n, l⟩ = (0, raiseA t p l) := by simp [doesA, h]
    rw [e1]
    have h5 : (k : Int) % 4 = 0 := by omega
    clear e1 h
    go_enter Try.func13, Try.ntmps13
    go_wp2_with (go_at_call 25; refine (hN.out.call fun _ h1 h2 => rraise_any h1.1 h1.2 h2 ht p l hl).mono ?_; rintro e w' ⟨rfl, hx⟩; have HX := Lib.hid hx; clear hx)
    go_ret2
    exact ⟨rfl, HX.out⟩
  · have e1 : doesA t ⟨k, p, fd, n, l⟩ = openA t p n := by simp [doesA, h]
    rw [e1]
    have h5 : (k : Int) % 4 = 1 := by omega
    clear e1 h
    go_enter Try.func13, Try.ntmps13
    go_wp2_with (go_at_call 26; refine (hN.out.call fun _ h1 h2 => ropen_any h1.1 h1.2 h2 p n).mono ?_; rintro e w' ⟨rfl, hx⟩; have HX := Lib.hid hx; clear hx)
    go_ret2
    exact ⟨rfl, HX.out⟩
  · have e1 : doesA t ⟨k, p, fd, n, l⟩ = closeA t p fd := by simp [doesA, h]
    rw [e1]
    have h5 : (k : Int) % 4 = 2 := by omega
    clear e1 h
    go_enter Try.func13, Try.ntmps13
    go_wp2_with (go_at_call 27; refine (hN.out.call fun _ h1 h2 => rclose_any h1.1 h1.2 h2 p fd).mono ?_; rintro e w' ⟨rfl, hx⟩; have HX := Lib.hid hx; clear hx)
    go_ret2
    exact ⟨rfl, HX.out⟩
  · have e1 : doesA t ⟨k, p, fd, n, l⟩ = (0, moveA t p fd n) := by simp [doesA, h]
    rw [e1]
    have h5 : (k : Int) % 4 = 3 := by omega
    clear e1 h
    go_enter Try.func13, Try.ntmps13
    go_wp2_with (go_at_call 28; refine (hN.out.call fun _ h1 h2 => rmove_any h1.1 h1.2 h2 p fd n).mono ?_; rintro e w' ⟨rfl, hx⟩; have HX := Lib.hid hx; clear hx)
    go_ret2
    exact ⟨rfl, HX.out⟩
end
end Go.Proofs.Ytnahccdjeilboaa.Prc
