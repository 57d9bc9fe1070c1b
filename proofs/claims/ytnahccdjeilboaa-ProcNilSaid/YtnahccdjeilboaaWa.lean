/-
  What the program's calls on a table of processes answer, and what they make of it.
  No condition is set.
-/
import Derived.Test.YtnahccdjeilboaaMm
import Derived.Test.YtnahccdjeilboaaW0
import Derived.Deep.WholeRow
import Derived.Deep.DrawnRows
import Derived.RegionTactic
import Derived.BigRegion
namespace Go.Proofs.Ytnahccdjeilboaa.Prc
open Go.RowKit Apart
attribute [local go_sem ↓] Go.wp_at_zero Go.wp_at_succ

abbrev ptrT (b : Nat) : Value := .pointer (some ⟨b, 0, none⟩)
set_option maxHeartbeats 400000 in
theorem reach_yes {w : World} {b n : Nat} (hc : w.cell? ⟨b, 0, none⟩ = some (.int .i64 (n : Int))) {p : Nat} (hp : p < n) :
    Calls Try.prog 31 #[.pointer (some ⟨b, 0, none⟩), .int .i64 (p : Int)] w fun e w' => e = .returned (.int .i64 0) ∧ w = w' := by
  have h1 : ¬ ((n : Int) ≤ (p : Int)) := by omega
  go_enter Try.func31, Try.ntmps31
  go_wp2
  go_ret
  exact ⟨rfl, rfl⟩
set_option maxHeartbeats 400000 in
theorem reach_no {w : World} {b n : Nat} (hc : w.cell? ⟨b, 0, none⟩ = some (.int .i64 (n : Int))) {p : Int} (hp : hasB n p = false) :
    Calls Try.prog 31 #[.pointer (some ⟨b, 0, none⟩), .int .i64 p] w fun e w' => e = .returned (.int .i64 1) ∧ w = w' := by
  rcases has_not hp with h | ⟨h, h'⟩
  · clear hp
    go_enter Try.func31, Try.ntmps31
    go_wp2
    go_ret
    exact ⟨rfl, rfl⟩
  · have h0 : ¬ p < 0 := by omega
    clear hp
    go_enter Try.func31, Try.ntmps31
    go_wp2
    go_ret
    exact ⟨rfl, rfl⟩
set_option maxHeartbeats 400000 in
theorem reach_nil (w : World) (p : Int) :
    Calls Try.prog 31 #[.pointer none, .int .i64 p] w fun e w' => e = .returned (.int .i64 2) ∧ w = w' := by
  go_enter Try.func31, Try.ntmps31
  go_wp2
  go_ret
  exact ⟨rfl, rfl⟩

section
variable {w : World} {b : Nat} {t : Tb} {G : Nat → Option Nat} {P : Nat → Prop}
theorem TabG.c0 (h : TabG b t G w) : w.cell? ⟨b, 0, none⟩ = some (.int .i64 (t.n : Int)) := h.blk.cell (by omega)
theorem TabG.cl (h : TabG b t G w) {p : Nat} (hp : p < 8) : w.cell? ⟨b, 1 + p, none⟩ = some (.int .u16 (t.lab p : Int)) := by rw [h.blk.cell (by omega), cT_lab _ _ _ hp]
theorem TabG.cf (h : TabG b t G w) {k : Nat} (hk : k < 64) : w.cell? ⟨b, 9 + k, none⟩ = some (ptrV (G k)) := by rw [h.blk.cell (by omega), cT_fil]

theorem TabG.cf2 (h : TabG b t G w) {q k : Nat} (hq : q < 8) (hk : k < 8) : w.cell? ⟨b, 9 + q * 8 + k, none⟩ = some (ptrV (G (q * 8 + k))) := by
  rw [Nat.add_assoc]
  exact h.cf (by omega)

set_option maxHeartbeats 400000 in
theorem label_any (h : TabG b t G w) (ht : t.Ok) (p : Int) :
    Calls Try.prog 16 #[.pointer (some ⟨b, 0, none⟩), .int .i64 p] w fun e w' => e = .returned (.tuple #[.int .u16 (labelA t p).1, .int .i64 (labelA t p).2]) ∧ w = w' := by
  have hc := Lib.hid h.c0
  cases hb : hasB t.n p
  · have e1 : labelA t p = (0, 1) := by simp [labelA, hb]
    rw [e1]
    have Hb := Lib.hid hb
    clear e1 hb
    go_enter Try.func16, Try.ntmps16
    go_wp2_with (go_at_call 31; refine (reach_no hc.out Hb.out).mono ?_; rintro e w' ⟨rfl, rfl⟩)
    go_ret2
    exact ⟨rfl, rfl⟩
  · obtain ⟨q, rfl, hq⟩ := has_nat hb
    have e1 : labelA t (q : Int) = ((t.lab q : Int), 0) := by simp [labelA, hb]
    rw [e1]
    have h8 : q < 8 := by have := ht.hi; omega
    have hl := h.cl h8
    have h9 : (q : Int) < 8 := by omega
    clear e1 hb
    go_enter Try.func16, Try.ntmps16
    go_wp2_with (go_at_call 31; refine (reach_yes hc.out hq).mono ?_; rintro e w' ⟨rfl, rfl⟩)
    go_ret2
    exact ⟨rfl, rfl⟩
set_option maxHeartbeats 400000 in
theorem label_nil (w : World) (p : Int) : Calls Try.prog 16 #[.pointer none, .int .i64 p] w fun e w' => e = .returned (.tuple #[.int .u16 0, .int .i64 2]) ∧ w = w' := by
  go_enter Try.func16, Try.ntmps16
  go_wp2_with (go_at_call 31; refine (reach_nil _ _).mono ?_; rintro e w' ⟨rfl, rfl⟩)
  go_ret2
  exact ⟨rfl, rfl⟩

set_option maxHeartbeats 400000 in
theorem raise_any (h : TabG b t G w) (hP : ∀ i, P i ↔ ftG b G i) (hbd : Bd P w) (ht : t.Ok) (p : Int) (a : Nat) (ha : a < 65536) :
    Calls Try.prog 23 #[.pointer (some ⟨b, 0, none⟩), .int .i64 p, .int .u16 (a : Int)] w fun e w' => e = .returned (.int .i64 (raiseA t p a).1) ∧ Nx (TabA b (raiseA t p a).2) P w w' := by
  have hc := Lib.hid h.c0
  have same : Nx (TabA b t) P w w := Nx.same ⟨G, h, hP⟩ hbd
  cases hb : hasB t.n p
  · have e1 : raiseA t p a = (1, t) := by simp [raiseA, hb]
    rw [e1]
    have Hb := Lib.hid hb
    clear e1 hb
    go_enter Try.func23, Try.ntmps23
    go_wp2_with (go_at_call 31; refine (reach_no hc.out Hb.out).mono ?_; rintro e w' ⟨rfl, rfl⟩)
    go_ret
    exact ⟨rfl, same⟩
  · obtain ⟨q, rfl, hq⟩ := has_nat hb
    have h8 : q < 8 := by have := ht.hi; omega
    have hl := h.cl h8
    have h9 : (q : Int) < 8 := by omega
    have hlab := ht.lab q
    have hfz := h.blk.frozen (1 + q)
    cases hf : flowB (t.lab q) a
    · have e1 : raiseA t (q : Int) a = (7, t) := by simp [raiseA, hb, hf]
      rw [e1]
      have Hf := Lib.hid hf
      clear e1 hb hf
      go_enter Try.func23, Try.ntmps23
      go_wp2_with (first | (go_at_call 31; refine (reach_yes hc.out hq).mono ?_; rintro e w' ⟨rfl, rfl⟩) | (go_at_call 20; refine (flows_any _ _ _ hlab ha).mono ?_; rintro e w' ⟨rfl, rfl⟩; rw [Hf.out]))
      go_ret
      exact ⟨rfl, same⟩
    · have e1 : raiseA t (q : Int) a = (0, { t with lab := upd t.lab q a }) := by simp [raiseA, hb, hf]
      rw [e1]
      have Hf := Lib.hid hf
      have Hr := Lib.hid (tab_raise h hP h8 a)
      clear e1 hb hf
      go_enter Try.func23, Try.ntmps23
      go_wp2_with (first | (go_at_call 31; refine (reach_yes hc.out hq).mono ?_; rintro e w' ⟨rfl, rfl⟩) | (go_at_call 20; refine (flows_any _ _ _ hlab ha).mono ?_; rintro e w' ⟨rfl, rfl⟩; rw [Hf.out]))
      go_ret
      exact ⟨rfl, Hr.out⟩
set_option maxHeartbeats 400000 in
theorem raise_nil (w : World) (p : Int) (a : Int) : Calls Try.prog 23 #[.pointer none, .int .i64 p, .int .u16 a] w fun e w' => e = .returned (.int .i64 2) ∧ w = w' := by
  go_enter Try.func23, Try.ntmps23
  go_wp2_with (go_at_call 31; refine (reach_nil _ _).mono ?_; rintro e w' ⟨rfl, rfl⟩)
  go_ret
  exact ⟨rfl, rfl⟩

/-! What is open under a number. -/
set_option maxHeartbeats 400000 in
theorem find_nil (w : World) (p fd : Int) : Calls Try.prog 29 #[.pointer none, .int .i64 p, .int .i64 fd] w fun e w' => e = .returned (.tuple #[.pointer none, .int .i64 2]) ∧ w = w' := by
  go_enter Try.func29, Try.ntmps29
  go_wp2_with (go_at_call 31; refine (reach_nil _ _).mono ?_; rintro e w' ⟨rfl, rfl⟩)
  go_ret2
  exact ⟨rfl, rfl⟩
set_option maxHeartbeats 400000 in
theorem find_yes (h : TabG b t G w) (ht : t.Ok) {q k : Nat} (hq : q < t.n) (hk : k < 8) {g : Nat} (hg : G (q * 8 + k) = some g) :
    Calls Try.prog 29 #[.pointer (some ⟨b, 0, none⟩), .int .i64 (q : Int), .int .i64 (k : Int)] w fun e w' => e = .returned (.tuple #[.pointer (some ⟨g, 0, none⟩), .int .i64 0]) ∧ w = w' := by
  have hc := Lib.hid h.c0
  have h8 : q < 8 := by have := ht.hi; omega
  have hl : w.cell? ⟨b, 9 + q * 8 + k, none⟩ = some (.pointer (some ⟨g, 0, none⟩)) := by
    rw [h.cf2 h8 hk, hg]
    rfl
  have h9 : (q : Int) < 8 := by omega
  have k9 : (k : Int) < 8 := by omega
  have k8 : ¬ (8 : Int) ≤ (k : Int) := by omega
  clear hg
  go_enter Try.func29, Try.ntmps29
  go_wp2_with (go_at_call 31; refine (reach_yes hc.out hq).mono ?_; rintro e w' ⟨rfl, rfl⟩)
  go_ret2
  exact ⟨rfl, rfl⟩
set_option maxHeartbeats 400000 in
theorem find_no (h : TabG b t G w) (ht : t.Ok) {p fd : Int} (hx : t.at_ p fd = none) :
    Calls Try.prog 29 #[.pointer (some ⟨b, 0, none⟩), .int .i64 p, .int .i64 fd] w fun e w' => e = .returned (.tuple #[.pointer none, .int .i64 (t.why p fd)]) ∧ w = w' := by
  have hc := Lib.hid h.c0
  rcases at_none hx with ⟨h1, h2⟩ | ⟨h2, q, rfl, hq, h3⟩
  · rw [h2]
    have Hb := Lib.hid h1
    clear h1 h2 hx
    go_enter Try.func29, Try.ntmps29
    go_wp2_with (go_at_call 31; refine (reach_no hc.out Hb.out).mono ?_; rintro e w' ⟨rfl, rfl⟩)
    go_ret2
    exact ⟨rfl, rfl⟩
  · rw [h2]
    have h8 : q < 8 := by have := ht.hi; omega
    have h9 : (q : Int) < 8 := by omega
    rcases h3 with h3 | ⟨k, rfl, hk, h4⟩
    · clear h2 hx
      rcases fd_not h3 with h5 | ⟨h5, h6⟩
      · clear h3
        go_enter Try.func29, Try.ntmps29
        go_wp2_with (go_at_call 31; refine (reach_yes hc.out hq).mono ?_; rintro e w' ⟨rfl, rfl⟩)
        go_ret2
        exact ⟨rfl, rfl⟩
      · have h7 : ¬ fd < 0 := by omega
        clear h3
        go_enter Try.func29, Try.ntmps29
        go_wp2_with (go_at_call 31; refine (reach_yes hc.out hq).mono ?_; rintro e w' ⟨rfl, rfl⟩)
        go_ret2
        exact ⟨rfl, rfl⟩
    · have hl : w.cell? ⟨b, 9 + q * 8 + k, none⟩ = some (.pointer none) := by
        rw [h.cf2 h8 hk, h.nil (by omega) h4]
        rfl
      have k9 : (k : Int) < 8 := by omega
      have k8 : ¬ (8 : Int) ≤ (k : Int) := by omega
      clear h2 hx h4
      go_enter Try.func29, Try.ntmps29
      go_wp2_with (go_at_call 31; refine (reach_yes hc.out hq).mono ?_; rintro e w' ⟨rfl, rfl⟩)
      go_ret2
      exact ⟨rfl, rfl⟩

set_option maxHeartbeats 400000 in
theorem close_any (h : TabG b t G w) (hP : ∀ i, P i ↔ ftG b G i) (hbd : Bd P w) (ht : t.Ok) (p fd : Int) :
    Calls Try.prog 22 #[.pointer (some ⟨b, 0, none⟩), .int .i64 p, .int .i64 fd] w fun e w' => e = .returned (.tuple #[.int .i64 (closeA t p fd).1, .int .i64 (closeA t p fd).2.1]) ∧ Nx (TabA b (closeA t p fd).2.2) P w w' := by
  have same : Nx (TabA b t) P w w := Nx.same ⟨G, h, hP⟩ hbd
  cases hx : t.at_ p fd with
  | none =>
    have e1 : closeA t p fd = (0, t.why p fd, t) := by simp [closeA, hx]
    rw [e1]
    have hw : ((t.why p fd) == 0) = false ∧ (!(t.why p fd) == 0) = true := by
      rcases at_none hx with ⟨-, h2⟩ | ⟨h2, -⟩ <;> rw [h2] <;> decide
    have hF : ∀ u, u = w → _ := fun u hu => hu ▸ find_no h ht hx
    have HF := Lib.hid hF
    obtain ⟨y, hy⟩ : ∃ y, y = t.why p fd := ⟨_, rfl⟩
    rw [← hy] at hw HF ⊢
    obtain ⟨hw1, hw2⟩ := hw
    clear e1 hx hF hy
    go_enter Try.func22, Try.ntmps22
    go_wp2_with (go_at_call 29; refine (HF.out _ rfl).mono ?_; rintro e w' ⟨rfl, rfl⟩)
    go_ret2
    exact ⟨rfl, same⟩
  | some x =>
    obtain ⟨q, k, rfl, rfl, hq, hk, h2, h3⟩ := at_some hx
    have e1 : closeA t (q : Int) (k : Int) = (x.1, 0, { t with fil := upd t.fil (q * 8 + k) none }) := by simp [closeA, hx, h3]
    rw [e1]
    have h8 : q < 8 := by have := ht.hi; omega
    obtain ⟨g, hg, hB⟩ := h.ptr (by omega) h2
    have hne := h.ne (by omega) hg
    have c0 : w.cell? ⟨g, 0, none⟩ = some (.int .i64 x.1) := hB.cell 0
    have hl := h.cf2 h8 hk
    have hfz := h.blk.frozen (9 + q * 8 + k)
    have h9 : (q : Int) < 8 := by omega
    have k9 : (k : Int) < 8 := by omega
    have Hr := Lib.hid (tab_close2 h hP h8 hk)
    have HF := Lib.hid (find_yes h ht hq hk hg)
    clear e1 hx h2 h3 hg
    go_enter Try.func22, Try.ntmps22
    go_wp2_with (go_at_call 29; refine HF.out.mono ?_; rintro e w' ⟨rfl, rfl⟩)
    go_ret2
    exact ⟨rfl, Hr.out⟩
end
end Go.Proofs.Ytnahccdjeilboaa.Prc
