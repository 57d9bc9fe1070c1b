/-
  What the statements' own helpers do: a patch, the first few acts, whether two slices of ints are alike.
-/
import Derived.Test.YtnmfpgeojggjbaaF
import Derived.Test.YtnmfpgeojggjbaaV6
namespace Go.Proofs.Ytnmfpgeojggjbaa
open Go.RowKit
attribute [local go_sem ↓] Go.wp_at_zero Go.wp_at_succ

theorem part_all (c : Nat) : part c 64 = same c := by simp only [part, same, Nat.sub_self, List.replicate_zero, List.append_nil]
theorem below_drewN {B : Nat} {a w : World} (h : Below B a w) (q : Nat) : Below B a (w.drewN q) := ⟨h.os, h.tape, h.output, h.size, h.block⟩

set_option maxHeartbeats 800000 in
/-- A patch. -/
theorem patch_any (at_ : Int) (c : Nat) (hc : c < 256) (w : World) :
    Calls Try.prog 13 #[.int .i64 at_, .int .u8 (c : Int)] w fun e w' => ∃ g, e = .returned (.agg #[.int .i64 at_, .slice (some ⟨g, 0, none⟩) 64 64, .int .u16 (c : Int)]) ∧ w.heap.size ≤ g ∧ Bk w' g 5 (same c) ∧ Below w.heap.size w w' := by
  have hmk := run_make64
  have hcv : (c : Int) % 65536 = c := by omega
  have hB0 := (Bk.new w 41 [.int .i64 0, .slice none 0 0, .int .u16 0])
  have e1 : (w.alloc (.cells #[.int .i64 0, .slice none 0 0, .int .u16 0] 41)).heap.size = w.heap.size + 1 := by simp
  have HB0 := Lib.hid hB0
  clear hB0
  go_enter Try.func13, Try.ntmps13
  go_wp2
  go_loopw [6, 10] (fun _ i wr => ∃ j : Nat, j ≤ 64 ∧ i = .int .i64 (j : Int) ∧ Bk wr (w.heap.size + 1) 5 (part c j) ∧ Bk wr w.heap.size 41 [.int .i64 0, .slice none 0 0, .int .u16 0] ∧ Below w.heap.size w wr) (fun _ i _ => 64 - (intOf i).toNat)
  case atStart =>
    have h1 := Bk.new (w.alloc (.cells #[.int .i64 0, .slice none 0 0, .int .u16 0] 41)) 5 (same 0)
    rw [e1] at h1
    exact ⟨0, by omega, rfl, h1, HB0.out.below ((Below.refl _ _).alloc (Nat.le_refl _) _) (by rw [e1]; omega), ((Below.refl _ w).alloc (Nat.le_refl _) _).alloc (by rw [e1]; omega) _⟩
  case round =>
    obtain ⟨j, hj, rfl, hB, hR, hb⟩ := hrel
    by_cases hlt : j < 64
    · have h0 : ∃ u, wr.cell? ⟨w.heap.size + 1, j, none⟩ = some u := ⟨_, (hB.cell j).trans (List.getElem?_eq_getElem (by simp [part]; omega))⟩
      obtain ⟨u, hu⟩ := h0
      have hf := hB.frozen j
      have hB2 := hB.set j (.int .u8 (c : Int))
      rw [part_set c j hlt] at hB2
      have HB2 := Lib.hid hB2
      have HR2 : Hid (Bk (wr.setCell ⟨w.heap.size + 1, j, none⟩ (.int .u8 (c : Int))) w.heap.size 41 [.int .i64 0, .slice none 0 0, .int .u16 0]) := (Below.heap_setCell wr ⟨w.heap.size + 1, j, none⟩ _ w.heap.size (by show w.heap.size ≠ w.heap.size + 1; omega)).trans hR
      have Hb := Lib.hid (hb.setCell (p := ⟨w.heap.size + 1, j, none⟩) (by show w.heap.size ≤ w.heap.size + 1; omega) (.int .u8 (c : Int)))
      clear hB hB2 hb hR
      go_wp2
      go_roundw
      case rel => exact ⟨j + 1, by omega, by go_num, HB2.out, HR2.out, Hb.out⟩
      case measure => simp [intOf]; omega
    · obtain rfl : j = 64 := by omega
      have c0 := hR.cell 0
      have c1 := hR.cell 1
      have c2 := hR.cell 2
      have f0 := hR.frozen 0
      have f1 := hR.frozen 1
      have f2 := hR.frozen 2
      have HB := Lib.hid hB
      have Hb := Lib.hid hb
      clear hB hR hb
      go_wp2
      refine bodyPost_ret (v := .agg #[.int .i64 at_, .slice (some ⟨w.heap.size + 1, 0, none⟩) 64 64, .int .u16 (c : Int)]) (by simp [results, Try.results13, go_sem, c0, c1, c2]) rfl ⟨w.heap.size + 1, rfl, by omega, ?_, ?_⟩
      · have hg : w.heap.size + 1 ≠ w.heap.size := by omega
        have h := HB.out
        exact (((Below.heap_setCell _ _ _ _ hg).trans (Below.heap_setCell _ _ _ _ hg)).trans (Below.heap_setCell _ _ _ _ hg)).trans (by rw [part_all] at h; exact h)
      · exact ((Hb.out.setCell (p := ⟨w.heap.size, 0, none⟩) (Nat.le_refl _) _).setCell (p := ⟨w.heap.size, 1, none⟩) (Nat.le_refl _) _).setCell (p := ⟨w.heap.size, 2, none⟩) (Nat.le_refl _) _
theorem patch_int (at_ x : Int) (c : Nat) (hx : x = (c : Int)) (hc : c < 256) (w : World) :
    Calls Try.prog 13 #[.int .i64 at_, .int .u8 x] w fun e w' => ∃ g, e = .returned (.agg #[.int .i64 at_, .slice (some ⟨g, 0, none⟩) 64 64, .int .u16 (c : Int)]) ∧ w.heap.size ≤ g ∧ Bk w' g 5 (same c) ∧ Below w.heap.size w w' := by
  subst hx
  exact patch_any at_ c hc w

set_option maxHeartbeats 800000 in
/-- Are two slices of ints alike? -/
theorem same_ints {w : World} {b1 b2 : Nat} {v u : Value} {l m : List Int} (hv : Ints w b1 v l) (hu : Ints w b2 u m) :
    Calls Try.prog 23 #[v, u] w fun e w' => e = .returned (.bool (l == m)) ∧ Below w.heap.size w w' := by
  obtain ⟨A, c, rfl, h1, h2⟩ := hv.len
  obtain ⟨A', c', rfl, h1', h2'⟩ := hu.len
  have HV := Lib.hid hv
  have HU := Lib.hid hu
  unfold maxLen at h2 h2'
  obtain ⟨n, hn⟩ : ∃ n, n = l.length := ⟨_, rfl⟩
  obtain ⟨n', hn'⟩ : ∃ n', n' = m.length := ⟨_, rfl⟩
  have Hn := Lib.hid hn
  have Hn' := Lib.hid hn'
  rw [← hn] at h1 ⊢
  rw [← hn'] at h1' ⊢
  clear hv hu hn hn'
  by_cases hnn : n = n'
  · subst hnn
    have hb : ((n : Int) != (n : Int)) = false := by simp
    go_enter Try.func23, Try.ntmps23
    go_wp2
    go_loopw [5, 11, 12, 13, 14] (fun i _ _ _ _ wr => ∃ j : Nat, j ≤ n ∧ i = .int .i64 (j : Int) ∧ Below w.heap.size w wr ∧ Hid (∀ t, (ht : t < l.length) → (ht' : t < m.length) → t < j → l[t] = m[t])) (fun i _ _ _ _ _ => n - (intOf i).toNat)
    case atStart => exact ⟨0, Nat.zero_le _, rfl, Below.refl _ _, fun t _ _ ht => absurd ht (Nat.not_lt_zero _)⟩
    case round =>
      obtain ⟨j, hj, rfl, hb, hf⟩ := hrel
      have Hb := Lib.hid hb
      clear hb
      by_cases hlt : j < n
      · have hjl : j < l.length := by rw [← Hn.out]; exact hlt
        have hjm : j < m.length := by rw [← Hn'.out]; exact hlt
        have V1 := HV.out.below Hb.out
        have U1 := HU.out.below Hb.out
        rw [← Hn.out] at V1
        rw [← Hn'.out] at U1
        obtain ⟨g, x1, hv, hc, _⟩ := V1.get hjl
        obtain ⟨g', x2, hv', hc', _⟩ := U1.get hjm
        obtain rfl : A = some ⟨g, 0, none⟩ := by injection hv
        obtain rfl : A' = some ⟨g', 0, none⟩ := by injection hv'
        obtain ⟨x, hx⟩ : ∃ x, x = l[j] := ⟨_, rfl⟩
        obtain ⟨y, hy⟩ : ∃ y, y = m[j] := ⟨_, rfl⟩
        rw [← hx] at hc
        rw [← hy] at hc'
        have Hx := Lib.hid hx
        have Hy := Lib.hid hy
        have hji : (j : Int) < (n : Int) := by omega
        clear hx hy V1 U1 hv hv'
        by_cases hxy : x = y
        · have hb2 : (x != y) = false := by simp [hxy]
          have Hxy := Lib.hid hxy
          clear hxy
          go_wp2
          go_quiet (fail)
          go_wp2
          go_roundw
          case rel => exact ⟨j + 1, by omega, by go_num, below_drewN Hb.out nq, fun t ht ht' htj => by
            by_cases e : t = j
            · subst e; rw [← Hx.out, ← Hy.out]; exact Hxy.out
            · exact hf.out t ht ht' (by omega)⟩
          case measure => simp [intOf]; omega
        · have hb2 : (x != y) = true := by simp [hxy]
          have Hxy := Lib.hid hxy
          clear hxy
          go_wp2
          go_quiet (fail)
          go_wp2
          go_ret
          refine ⟨?_, below_drewN Hb.out nq⟩
          have : (l == m) = false := by
            rw [beq_eq_false_iff_ne]
            intro e
            subst e
            exact Hxy.out (Hx.out.trans Hy.out.symm)
          rw [this]; rfl
      · obtain rfl : j = n := by omega
        have : (l == m) = true := by
          rw [beq_iff_eq]
          refine List.ext_getElem (by rw [← Hn.out, ← Hn'.out]) fun t ht ht' => hf.out t ht ht' (by rw [Hn.out]; exact ht)
        have Ht := Lib.hid this
        clear this
        go_wp2
        go_ret
        exact ⟨by rw [Ht.out]; rfl, Hb.out⟩
  · have hb : ((n : Int) != (n' : Int)) = true := by simp; omega
    have : (l == m) = false := by
      rw [beq_eq_false_iff_ne]
      intro e
      subst e
      exact hnn (Hn.out.trans Hn'.out.symm)
    rw [this]
    clear this
    go_enter Try.func23, Try.ntmps23
    go_wp2
    go_ret
    exact ⟨rfl, Below.refl _ _⟩

/-- What is done. -/
structure Act where
  kind : Nat
  at_ : Int
  c : Nat
  bA : Option Addr
  bn : Nat
  bc : Nat
structure Act.Good (a : Act) : Prop where
  kind : a.kind < 256
  at_ : I64 a.at_
  c : a.c < 256
  bc : a.bn ≤ a.bc
/-- Its cells. -/
def Act.cells (a : Act) : List Value := [.int .u8 (a.kind : Int), .int .i64 a.at_, .int .u8 (a.c : Int), .slice a.bA a.bn a.bc]
/-- A slice of them. -/
def Acts (w : World) (B : Nat) (A : Option Addr) (l : List Act) : Prop :=
  l = [] ∨ ∃ b o, A = some ⟨b, o, none⟩ ∧ b < B ∧ ∀ i a, l[i]? = some a → a.Good ∧ ∀ j u, a.cells[j]? = some u → w.cell? ⟨b, o + i * 4 + j, none⟩ = some u
theorem Acts.below {w w' : World} {B : Nat} {A : Option Addr} {l : List Act} (h : Acts w B A l) (hb : Below B w w') : Acts w' B A l := by
  rcases h with h | ⟨b, o, h1, h2, h3⟩
  · exact .inl h
  · exact .inr ⟨b, o, h1, h2, fun i a hi => ⟨(h3 i a hi).1, fun j u hu => (hb.cell h2).trans ((h3 i a hi).2 j u hu)⟩⟩
theorem Acts.at {w : World} {B : Nat} {A : Option Addr} {l : List Act} (h : Acts w B A l) {i : Nat} (hi : i < l.length) : ∃ b o a, A = some ⟨b, o, none⟩ ∧ b < B ∧ l[i]? = some a ∧ a.Good ∧
    w.cell? ⟨b, o + i * 4, none⟩ = some (.int .u8 (a.kind : Int)) ∧ w.cell? ⟨b, o + i * 4 + 1, none⟩ = some (.int .i64 a.at_) ∧ w.cell? ⟨b, o + i * 4 + 2, none⟩ = some (.int .u8 (a.c : Int)) ∧ w.cell? ⟨b, o + i * 4 + 3, none⟩ = some (.slice a.bA a.bn a.bc) := by
  rcases h with rfl | ⟨b, o, h1, h2, h3⟩
  · simp at hi
  · obtain ⟨hg, hc⟩ := h3 i _ (List.getElem?_eq_getElem hi)
    exact ⟨b, o, _, h1, h2, List.getElem?_eq_getElem hi, hg, hc 0 _ rfl, hc 1 _ rfl, hc 2 _ rfl, hc 3 _ rfl⟩

set_option maxHeartbeats 800000 in
theorem few_any (l : List Act) (A : Option Addr) (n c : Nat) (w : World) (hn : l.length = n) (hc : n ≤ c) (hm : c ≤ 9223372036854775807) (hr : Acts w w.heap.size A l) :
    Calls Try.prog 11 #[.slice A n c] w fun e w' => ∃ q, e = .returned (.slice A q c) ∧ q ≤ n ∧ q ≤ 120 ∧ w = w' := by
  have Hr := Lib.hid hr
  have Hn := Lib.hid hn
  clear hr hn
  go_enter Try.func11, Try.ntmps11
  go_wp2
  go_loopw [3, 6] (fun _ i wr => ∃ j : Nat, j ≤ n ∧ j ≤ 120 ∧ i = .int .i64 (j : Int) ∧ wr = w) (fun _ i _ => n - (intOf i).toNat)
  case atStart => exact ⟨0, Nat.zero_le _, Nat.zero_le _, rfl, rfl⟩
  case round =>
    obtain ⟨j, hj, hj2, rfl, rfl⟩ := hrel
    by_cases hlt : j < n
    · obtain ⟨b, o, a, rfl, hb, ha, hg, c0, c1, c2, c3⟩ := Hr.out.at (i := j) (by rw [Hn.out]; exact hlt)
      have Ha := Lib.hid ha
      have Hg := Lib.hid hg
      clear ha hg c0 c1 c2 hb
      by_cases h120 : 120 ≤ j
      · obtain rfl : j = 120 := by omega
        clear c3
        go_wp2
        go_ret
        exact ⟨120, rfl, by omega, by omega, rfl⟩
      · have hi : ¬ ((120 : Int) ≤ (j : Int)) := by omega
        by_cases h200 : 200 < a.bn
        · have h2 : (200 : Int) < (a.bn : Int) := by omega
          go_wp2
          go_ret
          exact ⟨j, rfl, by omega, by omega, rfl⟩
        · have h2 : ¬ ((200 : Int) < (a.bn : Int)) := by omega
          go_wp2
          go_roundw
          case rel => exact ⟨j + 1, by omega, by omega, by go_num, by first | trivial | rfl⟩
          case measure => simp [intOf]; omega
    · obtain rfl : j = n := by omega
      go_wp2
      go_ret
      exact ⟨j, rfl, by omega, by omega, rfl⟩
end Go.Proofs.Ytnmfpgeojggjbaa
