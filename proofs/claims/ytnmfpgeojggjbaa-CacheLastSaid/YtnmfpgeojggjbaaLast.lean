/-
  Statement CacheLast: a sector that is got is as it was put last, and no more are kept than there is room for. No condition.
-/
import Derived.Test.YtnmfpgeojggjbaaO
import Derived.Test.YtnmfpgeojggjbaaQ
namespace Go.Proofs.Ytnmfpgeojggjbaa
open Go.RowKit Go.ChangeShapes Go.WideShapes Go.ChangeAt
attribute [local go_sem ↓] Go.wp_at_zero Go.wp_at_succ

/-- The bytes that were put last. -/
def lastV (V : Nat → Nat) : List Value := (List.range 8).map fun s => .int .u8 (V s : Int)
theorem lastV_get (V : Nat → Nat) {s : Nat} (h : s < 8) : (lastV V)[s]? = some (.int .u8 (V s : Int)) := by simp [lastV, h]
theorem lastV_set (V : Nat → Nat) (t c : Nat) : (lastV V).set t (.int .u8 (c : Int)) = lastV (fun s => if s = t then c else V s) := by
  apply List.ext_getElem?
  intro i
  rw [List.getElem?_set]
  by_cases hi : i < 8
  · rw [lastV_get _ hi]
    split
    · rename_i h; subst h; simp [lastV, hi]
    · rename_i h; rw [lastV_get _ hi, if_neg (Ne.symm h)]
  · split
    · rename_i h; subst h; rw [if_neg (by simp [lastV]; omega), List.getElem?_eq_none (by simp [lastV]; omega)]
    · rw [List.getElem?_eq_none (by simp [lastV]; omega), List.getElem?_eq_none (by simp [lastV]; omega)]
theorem lastV_zero : lastV (fun _ => 0) = List.replicate 8 (.int .u8 0) := by rfl
theorem coh_start (n room : Nat) (hn : n ≤ 4096) : Coh n 0 room (fun _ => 0) 0 [] (Dk.fresh n 0) :=
  ⟨⟨by simp, by simp, by simp [Dk.fresh, hn], rfl, rfl, Nat.le_refl _, by simp⟩, by simp [Dk.fresh], by simp, by simp, fun s hs _ => by simp [Dk.now, Dk.fresh, puts, hs], by simp, by simp⟩

set_option maxRecDepth 100000 in
set_option maxHeartbeats 6400000 in
theorem last_walk (r : Nat) (hr : r < 256) (l : List Act) (A : Option Addr) (n c : Nat) (w : World) (hn : l.length = n) (hc : n ≤ c) (hm : c ≤ 9223372036854775807) (ha : Acts w w.heap.size A l) :
    Calls Try.prog 3 #[.int .u8 (r : Int), .slice A n c] w fun e w' => e = .returned (.bool true) ∧ Below w.heap.size w w' := by
  obtain ⟨m, hm9⟩ : ∃ m, m = r % 9 := ⟨_, rfl⟩
  have h9 : (r : Int) % 9 = (m : Int) := by omega
  obtain ⟨rm, hrm⟩ : ∃ rm, rm = m + 1 := ⟨_, rfl⟩
  have hrmi : (m : Int) + 1 = (rm : Int) := by omega
  have hml : m < 9 := by omega
  have hrl : 1 ≤ rm ∧ rm ≤ 9 := by omega
  have HA := Lib.hid ha
  have Hn := Lib.hid hn
  have Hrl := Lib.hid hrl
  clear ha hn hrl hrm hm9
  go_enter Try.func3, Try.ntmps3
  go_wp2_with fail
  refine (shown_any _).mono ?_
  rintro e w1 ⟨rfl, hb⟩
  have L1 := Lib.hid hb
  clear hb
  go_wp2_with fail
  refine (new_any (f := sec) _ 8 (by decide) 0 sec_zero).mono ?_
  rintro e w2 ⟨bd, Sd, rfl, hb, hD, hS⟩
  have D2 := Lib.hid hD
  have HS2 := Lib.hid fun i (hi : Sd i) => Nat.le_trans L1.out.size (hS i hi)
  have L2 := Lib.hid (L1.out.trans (hb.mono L1.out.size))
  clear hb hD hS L1
  go_wp2_with fail
  refine (cnew_any _ bd rm Hrl.out.1 (Nat.le_trans Hrl.out.2 (by decide))).mono ?_
  rintro e w3 ⟨b, Sc, rfl, hb, hC, hS⟩
  have O3 : Hid (Ours w.heap.size w3 b bd rm [] (Dk.fresh 8 0) (fun i => Sc i ∨ Sd i)) := Ours.start D2.out HS2.out hb L2.out.size hC hS
  have L3 := Lib.hid (L2.out.trans (hb.mono L2.out.size))
  clear hb hC hS D2 HS2 L2
  go_wp2_with fail
  have hB4 : Bk (w3.alloc (.cells #[.int .u8 0, .int .u8 0, .int .u8 0, .int .u8 0, .int .u8 0, .int .u8 0, .int .u8 0, .int .u8 0] 31)) w3.heap.size 31 (lastV fun _ => 0) := Bk.new w3 31 (lastV fun _ => 0)
  have hb4 : Below w3.heap.size w3 (w3.alloc (.cells #[.int .u8 0, .int .u8 0, .int .u8 0, .int .u8 0, .int .u8 0, .int .u8 0, .int .u8 0, .int .u8 0] 31)) := (Below.refl _ w3).alloc (Nat.le_refl _) _
  have O4 := Lib.hid (O3.out.below hb4)
  have L4 := Lib.hid (L3.out.trans (hb4.mono L3.out.size))
  have N4 : Hid (∀ t, (Sc t ∨ Sd t) → t ≠ w3.heap.size) := fun t ht e => by have := O3.out.1.lt ht; omega
  have G4 : Hid (w.heap.size ≤ w3.heap.size) := L3.out.size
  have B4 := Lib.hid hB4
  clear hB4 hb4 O3 L3
  obtain ⟨gl, hgl⟩ : ∃ gl, gl = w3.heap.size := ⟨_, rfl⟩
  rw [← hgl] at B4 N4 G4 ⊢
  generalize w3.alloc (.cells #[.int .u8 0, .int .u8 0, .int .u8 0, .int .u8 0, .int .u8 0, .int .u8 0, .int .u8 0, .int .u8 0] 31) = w4 at *
  clear hgl
  have HA4 : Hid (Acts w4 w4.heap.size A l) := by
    have h1 := HA.out.below L4.out
    rcases h1 with h1 | ⟨b', o, h1, h2, h3⟩
    · exact .inl h1
    · exact .inr ⟨b', o, h1, Nat.lt_of_lt_of_le h2 L4.out.size, h3⟩
  refine (few_any l A n c w4 Hn.out hc hm HA4.out).mono ?_
  rintro e w4' ⟨q, rfl, hq, hq2, rfl⟩
  go_wp2
  go_loopw [44] (fun i wr => ∃ (j : Nat) (V : Nat → Nat) (L : List (Nat × Sl)) (k : Dk Nat) (S : Nat → Prop), j ≤ q ∧ i = .int .i64 (j : Int) ∧ Ours w.heap.size wr b bd rm L k S ∧ Coh 8 j rm V j L k ∧ Bk wr gl 31 (lastV V) ∧ (∀ t, S t → t ≠ gl) ∧ (∀ s, V s < 256) ∧ Below w.heap.size w wr) (fun i _ => q - (intOf i).toNat)
  case atStart => exact ⟨0, fun _ => 0, [], Dk.fresh 8 0, _, Nat.zero_le _, rfl, O4.out, coh_start 8 rm (by decide), B4.out, N4.out, fun _ => by simp, L4.out⟩
  case round =>
    clear O4 B4 N4 L4 HA4
    obtain ⟨j, V, L, k, S, hj, rfl, hO, hC, hB, hN, hV, hL⟩ := hrel
    have O := Lib.hid hO
    have C := Lib.hid hC
    have BL := Lib.hid hB
    have NL := Lib.hid hN
    have HV := Lib.hid hV
    have LL := Lib.hid hL
    clear hO hC hB hN hV hL
    by_cases hlt : j < q
    · obtain ⟨ba, oa, a, rfl, hba, hal, hag, c0, c1, c2, c3⟩ := (HA.out.below LL.out).at (i := j) (by rw [Hn.out]; omega)
      have hk8 := hag.kind
      have hac := hag.c
      obtain ⟨kd, hkd⟩ : ∃ kd, kd = a.kind := ⟨_, rfl⟩
      obtain ⟨ac, hacc⟩ : ∃ ac, ac = a.c := ⟨_, rfl⟩
      obtain ⟨at_, hat⟩ : ∃ at_, at_ = a.at_ := ⟨_, rfl⟩
      rw [← hkd] at c0 hk8
      rw [← hacc] at c2 hac
      rw [← hat] at c1
      obtain ⟨bA, hbA⟩ : ∃ bA, bA = a.bA := ⟨_, rfl⟩
      obtain ⟨bn, hbn⟩ : ∃ bn, bn = a.bn := ⟨_, rfl⟩
      obtain ⟨bc, hbc⟩ : ∃ bc, bc = a.bc := ⟨_, rfl⟩
      rw [← hbA, ← hbn, ← hbc] at c3
      clear hkd hacc hat hbA hbn hbc hal hag hba
      have hBa := Bk.new wr 35 [.int .u8 (kd : Int), .int .i64 at_, .int .u8 (ac : Int), .slice bA bn bc]
      have hb0 : Below wr.heap.size wr (wr.alloc (.cells #[.int .u8 (kd : Int), .int .i64 at_, .int .u8 (ac : Int), .slice bA bn bc] 35)) := (Below.refl _ wr).alloc (Nat.le_refl _) _
      have O0 := Lib.hid (O.out.below hb0)
      have BL0 := Lib.hid (BL.out.below hb0 BL.out.lt)
      have NA0 : Hid (¬ S wr.heap.size) := O.out.new (Nat.le_refl _)
      have BA0 := Lib.hid hBa
      have L0 := Lib.hid (LL.out.trans (hb0.mono LL.out.size))
      have GA : Hid (w.heap.size ≤ wr.heap.size) := LL.out.size
      have HJ : Hid (j + 1 ≤ 200) := by unfold Hid; omega
      clear hBa hb0
      by_cases hin : 0 ≤ at_ ∧ at_ ≤ 7
      · obtain ⟨t, ht⟩ : ∃ t : Nat, at_ = (t : Int) := ⟨at_.toNat, by omega⟩
        subst ht
        have ht8 : t < 8 := by omega
        have hn0 : ¬ ((t : Int) < 0) := by omega
        have hn7 : ¬ ((7 : Int) < (t : Int)) := by omega
        clear hin
        have hkk : (kd : Int) % 8 = 0 ∨ (kd : Int) % 8 = 1 ∨ (kd : Int) % 8 = 2 ∨ (kd : Int) % 8 = 3 ∨ (kd : Int) % 8 = 4 ∨ (kd : Int) % 8 = 5 ∨ (kd : Int) % 8 = 6 ∨ (kd : Int) % 8 = 7 := by omega
        rcases hkk with hk | hk | hk | hk | hk | hk | hk | hk
        · have hhas : k.has (t : Int) = true := by simp [Dk.has, C.out.len]; omega
          have Hhas := Lib.hid hhas
          clear hhas
          go_wp2_with fail
          refine (get_all O0.out L0.out.size C.out.fine (by have := HJ.out; omega) (t : Int)).mono ?_
          rintro e w6 ⟨v, err, L', k', S', rfl, hR, hO, hst, hv⟩
          have hne1 : err ≠ 1 := fun e => by
            rcases hR with ⟨_, _, _, _, _, _, _, h⟩ | ⟨_, _, _, _, _, _, _, _, _, h⟩ | ⟨_, _, _, _, _, _, _, h⟩ | ⟨h, _⟩
            · omega
            · omega
            · omega
            · rw [Hhas.out] at h; cases h
          have hcg := coh_get C.out Hrl.out.1 (Nat.le_trans Hrl.out.2 (by decide)) hR
          have O6 := Lib.hid hO
          have BL6 := Lib.hid (hst.bk BL0.out fun h => NL.out gl h rfl)
          have BA6 := Lib.hid (hst.bk BA0.out NA0.out)
          have N6 : Hid (∀ t, S' t → t ≠ gl) := fun u hu e => hst.not BL0.out.lt (fun h => NL.out gl h rfl) (e ▸ hu)
          have L6 := Lib.hid (L0.out.trans (hst.below O0.out.2 L0.out.size))
          have C6 : Hid (Coh 8 (j + 1) rm V (j + 1) L' k') := hcg.1.up (Nat.le_refl _) (Nat.le_succ _)
          have herr : err = 0 ∨ err = 5 := by rcases hcg.2 with h | h | h <;> omega
          clear hO hst hR hcg O BL C LL L0 O0 BL0 BA0
          rcases hv with ⟨rfl, g, t', x, M, rfl, hgB, _, hBg, ht', hLM, hSg⟩ | ⟨hne, rfl⟩
          · obtain rfl : t' = t := by omega
            have hxc : x.c = V t' := C6.out.val t' x (by rw [hLM]; simp)
            rw [hxc] at hBg
            have BG6 := Lib.hid hBg
            have hV256 := HV.out t'
            have hle : (t' : Int) < 8 := by omega
            clear hxc hBg hne1 herr hSg hLM hgB ht'
            go_wp2
            refine wp_region_held_drew (S := fun u : World => Below w6.heap.size w6 u) (by kernel_rfl) (Below.refl _ _).drew (fun hHeld => ?_)
            refine wpAnyH_take (i := 0) (oi := _) (v := ?_) (by simp only [List.getElem?_toArray, List.getElem?_cons_zero]; rfl) (by kernel_rfl) (by kernel_rfl) (by kernel_rfl) (by exact fun _ _ _ h => h) (Or.inl ⟨by rfl, ?hyg0⟩) ((Below.refl _ _).drew) ?reg0
            case hyg0 => (intro u hSw; have e1 := conv_any (BG6.out.below hSw BG6.out.lt) hV256; have d1 : u.cell? ⟨wr.heap.size, 1, none⟩ = some (.int .i64 (t' : Int)) := (BA6.out.below hSw BA6.out.lt).cell 1; have d2 : u.cell? ⟨gl, t', none⟩ = some (.int .u8 (V t' : Int)) := ((BL6.out.below hSw BL6.out.lt).cell t').trans (lastV_get V ht8); clear hSw; go_simp <;> with_reducible rfl)
            try simp only [Act.put, List.setIfInBounds_toArray, List.set_cons_zero, List.set_cons_succ]
            refine wpAnyH_take (i := 1) (oi := _) (v := ?_) (by simp only [List.getElem?_toArray, List.getElem?_cons_succ, List.getElem?_cons_zero]; rfl) (by kernel_rfl) (by kernel_rfl) (by kernel_rfl) (by exact fun _ _ _ h => h) (Or.inl ⟨by rfl, ?hyg1⟩) ((Below.refl _ _).drew) ?reg1
            case hyg1 => (intro u hSw; have e1 := conv_any (BG6.out.below hSw BG6.out.lt) hV256; have d1 : u.cell? ⟨wr.heap.size, 1, none⟩ = some (.int .i64 (t' : Int)) := (BA6.out.below hSw BA6.out.lt).cell 1; have d2 : u.cell? ⟨gl, t', none⟩ = some (.int .u8 (V t' : Int)) := ((BL6.out.below hSw BL6.out.lt).cell t').trans (lastV_get V ht8); clear hSw; go_simp <;> with_reducible rfl)
            try simp only [Act.put, List.setIfInBounds_toArray, List.set_cons_zero, List.set_cons_succ]
            refine wpAnyH_take (i := 2) (oi := _) (v := ?_) (by simp only [List.getElem?_toArray, List.getElem?_cons_succ, List.getElem?_cons_zero]; rfl) (by kernel_rfl) (by kernel_rfl) (by kernel_rfl) (by exact fun _ _ _ h => h) (Or.inl ⟨by rfl, ?hyg2⟩) ((Below.refl _ _).drew) ?reg2
            case hyg2 => (intro u hSw; have e1 := conv_any (BG6.out.below hSw BG6.out.lt) hV256; have d1 : u.cell? ⟨wr.heap.size, 1, none⟩ = some (.int .i64 (t' : Int)) := (BA6.out.below hSw BA6.out.lt).cell 1; have d2 : u.cell? ⟨gl, t', none⟩ = some (.int .u8 (V t' : Int)) := ((BL6.out.below hSw BL6.out.lt).cell t').trans (lastV_get V ht8); clear hSw; go_simp <;> with_reducible rfl)
            try simp only [Act.put, List.setIfInBounds_toArray, List.set_cons_zero, List.set_cons_succ]
            refine wpAnyH_take (i := 3) (oi := _) (v := undef) (by simp only [List.getElem?_toArray, List.getElem?_cons_succ, List.getElem?_cons_zero]; rfl) (by kernel_rfl) (by kernel_rfl) (by kernel_rfl) (by exact fun _ _ _ h => h) (Or.inr ⟨by rfl, rfl⟩) ((Below.refl _ _).drew) ?_
            try simp only [Act.put, List.setIfInBounds_toArray, List.set_cons_zero, List.set_cons_succ]
            refine wpAnyH_take (i := 4) (oi := _) (v := undef) (by simp only [List.getElem?_toArray, List.getElem?_cons_succ, List.getElem?_cons_zero]; rfl) (by kernel_rfl) (by kernel_rfl) (by kernel_rfl) (by exact fun _ _ _ h => h) (Or.inr ⟨by rfl, rfl⟩) ((Below.refl _ _).drew) ?_
            try simp only [Act.put, List.setIfInBounds_toArray, List.set_cons_zero, List.set_cons_succ]
            refine wpAnyH_take (i := 5) (oi := _) (v := ?_) (by simp only [List.getElem?_toArray, List.getElem?_cons_succ, List.getElem?_cons_zero]; rfl) (by kernel_rfl) (by kernel_rfl) (by kernel_rfl) (by exact fun _ _ _ h => h) (Or.inl ⟨by rfl, ?hyg5⟩) ((Below.refl _ _).drew) ?reg5
            case hyg5 => (intro u hSw; have e1 := conv_any (BG6.out.below hSw BG6.out.lt) hV256; have d1 : u.cell? ⟨wr.heap.size, 1, none⟩ = some (.int .i64 (t' : Int)) := (BA6.out.below hSw BA6.out.lt).cell 1; have d2 : u.cell? ⟨gl, t', none⟩ = some (.int .u8 (V t' : Int)) := ((BL6.out.below hSw BL6.out.lt).cell t').trans (lastV_get V ht8); clear hSw; go_simp <;> with_reducible rfl)
            try simp only [Act.put, List.setIfInBounds_toArray, List.set_cons_zero, List.set_cons_succ]
            refine wpAnyH_take (i := 6) (oi := _) (v := ?_) (by simp only [List.getElem?_toArray, List.getElem?_cons_succ, List.getElem?_cons_zero]; rfl) (by kernel_rfl) (by kernel_rfl) (by kernel_rfl) (by exact fun _ _ _ h => h) (Or.inl ⟨by rfl, ?hyg6⟩) ((Below.refl _ _).drew) ?reg6
            case hyg6 => (intro u hSw; have e1 := conv_any (BG6.out.below hSw BG6.out.lt) hV256; have d1 : u.cell? ⟨wr.heap.size, 1, none⟩ = some (.int .i64 (t' : Int)) := (BA6.out.below hSw BA6.out.lt).cell 1; have d2 : u.cell? ⟨gl, t', none⟩ = some (.int .u8 (V t' : Int)) := ((BL6.out.below hSw BL6.out.lt).cell t').trans (lastV_get V ht8); clear hSw; go_simp <;> with_reducible rfl)
            try simp only [Act.put, List.setIfInBounds_toArray, List.set_cons_zero, List.set_cons_succ]
            refine wpAnyH_take (i := 7) (oi := _) (v := ?_) (by simp only [List.getElem?_toArray, List.getElem?_cons_succ, List.getElem?_cons_zero]; rfl) (by kernel_rfl) (by kernel_rfl) (by kernel_rfl) (by exact fun _ _ _ h => h) (Or.inl ⟨by rfl, ?hyg7⟩) ((Below.refl _ _).drew) ?reg7
            case hyg7 => (intro u hSw; have e1 := conv_any (BG6.out.below hSw BG6.out.lt) hV256; have d1 : u.cell? ⟨wr.heap.size, 1, none⟩ = some (.int .i64 (t' : Int)) := (BA6.out.below hSw BA6.out.lt).cell 1; have d2 : u.cell? ⟨gl, t', none⟩ = some (.int .u8 (V t' : Int)) := ((BL6.out.below hSw BL6.out.lt).cell t').trans (lastV_get V ht8); clear hSw; go_simp <;> with_reducible rfl)
            try simp only [Act.put, List.setIfInBounds_toArray, List.set_cons_zero, List.set_cons_succ]
            refine wpAnyH_take (i := 8) (oi := _) (v := ?_) (by simp only [List.getElem?_toArray, List.getElem?_cons_succ, List.getElem?_cons_zero]; rfl) (by kernel_rfl) (by kernel_rfl) (by kernel_rfl) (by exact fun _ _ _ h => h) (Or.inl ⟨by rfl, ?hyg8⟩) ((Below.refl _ _).drew) ?reg8
            case hyg8 => (intro u hSw; have e1 := conv_any (BG6.out.below hSw BG6.out.lt) hV256; have d1 : u.cell? ⟨wr.heap.size, 1, none⟩ = some (.int .i64 (t' : Int)) := (BA6.out.below hSw BA6.out.lt).cell 1; have d2 : u.cell? ⟨gl, t', none⟩ = some (.int .u8 (V t' : Int)) := ((BL6.out.below hSw BL6.out.lt).cell t').trans (lastV_get V ht8); clear hSw; go_simp <;> with_reducible rfl)
            try simp only [Act.put, List.setIfInBounds_toArray, List.set_cons_zero, List.set_cons_succ]
            refine wpAnyH_take (i := 9) (oi := _) (v := ?_) (by simp only [List.getElem?_toArray, List.getElem?_cons_succ, List.getElem?_cons_zero]; rfl) (by kernel_rfl) (by kernel_rfl) (by kernel_rfl) (by exact fun _ _ _ h => h) (Or.inl ⟨by rfl, ?hyg9⟩) ((Below.refl _ _).drew) ?reg9
            case hyg9 => (intro u hSw; have e1 := conv_any (BG6.out.below hSw BG6.out.lt) hV256; have d1 : u.cell? ⟨wr.heap.size, 1, none⟩ = some (.int .i64 (t' : Int)) := (BA6.out.below hSw BA6.out.lt).cell 1; have d2 : u.cell? ⟨gl, t', none⟩ = some (.int .u8 (V t' : Int)) := ((BL6.out.below hSw BL6.out.lt).cell t').trans (lastV_get V ht8); clear hSw; go_simp <;> with_reducible rfl)
            try simp only [Act.put, List.setIfInBounds_toArray, List.set_cons_zero, List.set_cons_succ]
            refine wpAnyH_take (i := 10) (oi := _) (v := ?_) (by simp only [List.getElem?_toArray, List.getElem?_cons_succ, List.getElem?_cons_zero]; rfl) (by kernel_rfl) (by kernel_rfl) (by kernel_rfl) (by exact fun _ _ _ h => h) (Or.inl ⟨by rfl, ?hyg10⟩) ((Below.refl _ _).drew) ?reg10
            case hyg10 => (intro u hSw; have e1 := conv_any (BG6.out.below hSw BG6.out.lt) hV256; have d1 : u.cell? ⟨wr.heap.size, 1, none⟩ = some (.int .i64 (t' : Int)) := (BA6.out.below hSw BA6.out.lt).cell 1; have d2 : u.cell? ⟨gl, t', none⟩ = some (.int .u8 (V t' : Int)) := ((BL6.out.below hSw BL6.out.lt).cell t').trans (lastV_get V ht8); clear hSw; go_simp <;> with_reducible rfl)
            try simp only [Act.put, List.setIfInBounds_toArray, List.set_cons_zero, List.set_cons_succ]
            refine wpAnyH_take (i := 11) (oi := _) (v := ?_) (by simp only [List.getElem?_toArray, List.getElem?_cons_succ, List.getElem?_cons_zero]; rfl) (by kernel_rfl) (by kernel_rfl) (by kernel_rfl) (by exact fun _ _ _ h => h) (Or.inl ⟨by rfl, ?hyg11⟩) ((Below.refl _ _).drew) ?reg11
            case hyg11 => (intro u hSw; have e1 := conv_any (BG6.out.below hSw BG6.out.lt) hV256; have d1 : u.cell? ⟨wr.heap.size, 1, none⟩ = some (.int .i64 (t' : Int)) := (BA6.out.below hSw BA6.out.lt).cell 1; have d2 : u.cell? ⟨gl, t', none⟩ = some (.int .u8 (V t' : Int)) := ((BL6.out.below hSw BL6.out.lt).cell t').trans (lastV_get V ht8); clear hSw; go_simp <;> with_reducible rfl)
            try simp only [Act.put, List.setIfInBounds_toArray, List.set_cons_zero, List.set_cons_succ]
            refine wpAnyH_take (i := 12) (oi := _) (v := ?_) (by simp only [List.getElem?_toArray, List.getElem?_cons_succ, List.getElem?_cons_zero]; rfl) (by kernel_rfl) (by kernel_rfl) (by kernel_rfl) (by exact fun _ _ _ h => h) (Or.inl ⟨by rfl, ?hyg12⟩) ((Below.refl _ _).drew) ?reg12
            case hyg12 => (intro u hSw; have e1 := conv_any (BG6.out.below hSw BG6.out.lt) hV256; have d1 : u.cell? ⟨wr.heap.size, 1, none⟩ = some (.int .i64 (t' : Int)) := (BA6.out.below hSw BA6.out.lt).cell 1; have d2 : u.cell? ⟨gl, t', none⟩ = some (.int .u8 (V t' : Int)) := ((BL6.out.below hSw BL6.out.lt).cell t').trans (lastV_get V ht8); clear hSw; go_simp <;> with_reducible rfl)
            try simp only [Act.put, List.setIfInBounds_toArray, List.set_cons_zero, List.set_cons_succ]
            refine wpAnyH_take (i := 13) (oi := _) (v := ?_) (by simp only [List.getElem?_toArray, List.getElem?_cons_succ, List.getElem?_cons_zero]; rfl) (by kernel_rfl) (by kernel_rfl) (by kernel_rfl) (by exact fun _ _ _ h => h) (Or.inl ⟨by rfl, ?hyg13⟩) ((Below.refl _ _).drew) ?reg13
            case hyg13 => (intro u hSw; have e1 := conv_any (BG6.out.below hSw BG6.out.lt) hV256; have d1 : u.cell? ⟨wr.heap.size, 1, none⟩ = some (.int .i64 (t' : Int)) := (BA6.out.below hSw BA6.out.lt).cell 1; have d2 : u.cell? ⟨gl, t', none⟩ = some (.int .u8 (V t' : Int)) := ((BL6.out.below hSw BL6.out.lt).cell t').trans (lastV_get V ht8); clear hSw; go_simp <;> with_reducible rfl)
            try simp only [Act.put, List.setIfInBounds_toArray, List.set_cons_zero, List.set_cons_succ]
            refine wpAnyH_take (i := 14) (oi := _) (v := ?_) (by simp only [List.getElem?_toArray, List.getElem?_cons_succ, List.getElem?_cons_zero]; rfl) (by kernel_rfl) (by kernel_rfl) (by kernel_rfl) (by exact fun _ _ _ h => h) (Or.inl ⟨by rfl, ?hyg14⟩) ((Below.refl _ _).drew) ?reg14
            case hyg14 => (intro u hSw; have e1 := conv_any (BG6.out.below hSw BG6.out.lt) hV256; have d1 : u.cell? ⟨wr.heap.size, 1, none⟩ = some (.int .i64 (t' : Int)) := (BA6.out.below hSw BA6.out.lt).cell 1; have d2 : u.cell? ⟨gl, t', none⟩ = some (.int .u8 (V t' : Int)) := ((BL6.out.below hSw BL6.out.lt).cell t').trans (lastV_get V ht8); clear hSw; go_simp <;> with_reducible rfl)
            try simp only [Act.put, List.setIfInBounds_toArray, List.set_cons_zero, List.set_cons_succ]
            refine wpAnyH_take (i := 15) (oi := _) (v := ?_) (by simp only [List.getElem?_toArray, List.getElem?_cons_succ, List.getElem?_cons_zero]; rfl) (by kernel_rfl) (by kernel_rfl) (by kernel_rfl) (by exact fun _ _ _ h => h) (Or.inl ⟨by rfl, ?hyg15⟩) ((Below.refl _ _).drew) ?reg15
            case hyg15 => (intro u hSw; have e1 := conv_any (BG6.out.below hSw BG6.out.lt) hV256; have d1 : u.cell? ⟨wr.heap.size, 1, none⟩ = some (.int .i64 (t' : Int)) := (BA6.out.below hSw BA6.out.lt).cell 1; have d2 : u.cell? ⟨gl, t', none⟩ = some (.int .u8 (V t' : Int)) := ((BL6.out.below hSw BL6.out.lt).cell t').trans (lastV_get V ht8); clear hSw; go_simp <;> with_reducible rfl)
            try simp only [Act.put, List.setIfInBounds_toArray, List.set_cons_zero, List.set_cons_succ]
            refine wpAnyH_ready (rs := [16]) (by kernel_rfl) (by simp) ?_
            refine AllReadyH.cons (o := _) (by simp only [List.getElem?_toArray, List.getElem?_cons_succ, List.getElem?_cons_zero]; rfl) (fun K hK => ?_) AllReadyH.nil
            go_simp
            refine (patch_any 0 (V t') hV256 _).mono ?_
            rintro e w7 ⟨g7, rfl, hg7, hB7, hb7⟩
            have hS7 : Below w6.heap.size w6 w7 := (Below.refl _ w6).drew.trans (hb7.mono (Nat.le_refl _))
            have S7 := Lib.hid hS7
            have B7 := Lib.hid hB7
            clear hS7 hB7 hb7 hg7
            go_simp
            refine hK.out _ _ S7.out (fun hHeld2 => ?_)
            refine held_strong (T := fun u => Bk u g7 5 (same (V t')) ∧ Below w6.heap.size w6 u) (by rintro _ ⟨_, h⟩; exact h) _ _ _ _ ?_
            clear hK K hHeld hHeld2
            refine wpAnyH_take (i := 17) (oi := _) (v := ?_) (by simp only [List.getElem?_toArray, List.getElem?_cons_succ, List.getElem?_cons_zero]; rfl) (by kernel_rfl) (by kernel_rfl) (by kernel_rfl) (by exact fun _ _ _ h => h) (Or.inl ⟨by rfl, ?hyh17⟩) (⟨B7.out, S7.out⟩) ?reh17
            case hyh17 => (rintro u ⟨hA, hSw⟩; have e0 := conv_any hA hV256; have e3 := strS_same (V t'); have e4 := run_field41 u; clear hA hSw; go_simp <;> with_reducible rfl)
            try simp only [Act.put, List.setIfInBounds_toArray, List.set_cons_zero, List.set_cons_succ]
            refine wpAnyH_take (i := 18) (oi := _) (v := ?_) (by simp only [List.getElem?_toArray, List.getElem?_cons_succ, List.getElem?_cons_zero]; rfl) (by kernel_rfl) (by kernel_rfl) (by kernel_rfl) (by exact fun _ _ _ h => h) (Or.inl ⟨by rfl, ?hyh18⟩) (⟨B7.out, S7.out⟩) ?reh18
            case hyh18 => (rintro u ⟨hA, hSw⟩; have e0 := conv_any hA hV256; have e3 := strS_same (V t'); have e4 := run_field41 u; clear hA hSw; go_simp <;> with_reducible rfl)
            try simp only [Act.put, List.setIfInBounds_toArray, List.set_cons_zero, List.set_cons_succ]
            refine wpAnyH_take (i := 19) (oi := _) (v := ?_) (by simp only [List.getElem?_toArray, List.getElem?_cons_succ, List.getElem?_cons_zero]; rfl) (by kernel_rfl) (by kernel_rfl) (by kernel_rfl) (by exact fun _ _ _ h => h) (Or.inl ⟨by rfl, ?hyh19⟩) (⟨B7.out, S7.out⟩) ?reh19
            case hyh19 => (rintro u ⟨hA, hSw⟩; have e0 := conv_any hA hV256; have e3 := strS_same (V t'); have e4 := run_field41 u; clear hA hSw; go_simp <;> with_reducible rfl)
            try simp only [Act.put, List.setIfInBounds_toArray, List.set_cons_zero, List.set_cons_succ]
            refine wpAnyH_take (i := 20) (oi := _) (v := ?_) (by simp only [List.getElem?_toArray, List.getElem?_cons_succ, List.getElem?_cons_zero]; rfl) (by kernel_rfl) (by kernel_rfl) (by kernel_rfl) (by exact fun _ _ _ h => h) (Or.inl ⟨by rfl, ?hyh20⟩) (⟨B7.out, S7.out⟩) ?reh20
            case hyh20 => (rintro u ⟨hA, hSw⟩; have e0 := conv_any hA hV256; have e3 := strS_same (V t'); have e4 := run_field41 u; clear hA hSw; go_simp <;> with_reducible rfl)
            try simp only [Act.put, List.setIfInBounds_toArray, List.set_cons_zero, List.set_cons_succ]
            refine wpAnyH_take (i := 21) (oi := _) (v := ?_) (by simp only [List.getElem?_toArray, List.getElem?_cons_succ, List.getElem?_cons_zero]; rfl) (by kernel_rfl) (by kernel_rfl) (by kernel_rfl) (by exact fun _ _ _ h => h) (Or.inl ⟨by rfl, ?hyh21⟩) (⟨B7.out, S7.out⟩) ?reh21
            case hyh21 => (rintro u ⟨hA, hSw⟩; have e0 := conv_any hA hV256; have e3 := strS_same (V t'); have e4 := run_field41 u; clear hA hSw; go_simp <;> with_reducible rfl)
            try simp only [Act.put, List.setIfInBounds_toArray, List.set_cons_zero, List.set_cons_succ]
            refine wpAnyH_done (by kernel_rfl) ?_ _
            have OT := Lib.hid (O6.out.below S7.out)
            have CT := C6
            have BT := Lib.hid (BL6.out.below S7.out BL6.out.lt)
            have NT := N6
            have VT := HV
            have LT := Lib.hid (L6.out.trans (S7.out.mono L6.out.size))
            clear O6 C6 BL6 BA6 N6 HV L6 BG6 B7 NL hV256
            have hTc := OT.out.cache
            obtain ⟨ScT, hcT⟩ := hTc
            have hlen1 := CT.out.room
            have hll : L'.length ≤ 10000 := CT.out.fine.len
            have hnd := (keys_nodup CT.out.nod)
            have HND : Hid ((keysI L').reverse.Nodup) := List.pairwise_reverse.2 (hnd.imp fun h => Ne.symm h)
            have HKL : Hid ((keysI L').reverse.length ≤ rm) := by unfold Hid; simp [keysI]; exact hlen1
            have hMm := MapIs.made w7 (plainElem (H := Unit) Try.prog 4) (fun x : Bool => (.lit (.bool x) : DataW Unit)) false
            have hbm : Below w7.heap.size w7 (w7.alloc (.map #[] 0)) := (Below.refl _ _).alloc (Nat.le_refl _) _
            have CM0 := Lib.hid (hcT.below hbm)
            have HM0 := Lib.hid hMm
            have Hbm := Lib.hid hbm
            have Hll := Lib.hid hll
            have hmm := @run_makeMap Try.prog
            clear hcT hlen1 hll hnd hMm hbm
            go_wp2_with (go_at_call 18; refine (has_cached CM0.out Hll.out).mono ?_; rintro e wH ⟨v, rfl, hI, hb⟩; obtain ⟨Av, cv, hv, hvl, hvm⟩ := hI.len; obtain ⟨nH, hnH⟩ : ∃ nH, nH = (keysI L').reverse.length := ⟨_, rfl⟩; rw [← hnH] at hv; subst hv; have HI := Lib.hid hI; have HbH := Lib.hid (Hbm.out.trans (hb.mono Hbm.out.size)); have HMH := Lib.hid (HM0.out.keep (w' := wH) (hb.block _ HM0.out.lt)); have HnH := Lib.hid hnH; have hlb : w7.heap.size < wH.heap.size := Nat.lt_of_lt_of_le (by simp) hb.size; have hibase := Lib.hid (fun g (hg : (Value.slice Av nH cv).ownBlock = some g) => (HI.out.lt hg).2.1); clear hI hb hnH hvl hvm)
            obtain ⟨gm, hgm⟩ : ∃ gm, gm = w7.heap.size := ⟨_, rfl⟩
            have Hgm := Lib.hid hgm
            rw [← hgm] at HMH hlb ⊢
            have hib2 : Hid (∀ g, (Value.slice Av nH cv).ownBlock = some g → gm < g) := fun g hg => by have := hibase.out g hg; simp at this; omega
            have hnr : nH ≤ rm := by rw [HnH.out]; exact HKL.out
            have hrm9 : rm ≤ 9 := Hrl.out.2
            clear hgm hmm
            go_loopw [19, 133] (fun _ i wx => ∃ j2 : Nat, j2 ≤ nH ∧ i = .int .i64 (j2 : Int) ∧ MapIs (plainElem (H := Unit) Try.prog 4) (fun x : Bool => (.lit (.bool x) : DataW Unit)) false wx gm (fun s => decide (s ∈ (keysI L').reverse.take j2)) (fun s => decide (s ∈ (keysI L').reverse.take j2)) j2 ∧ Below w7.heap.size w7 wx ∧ Ints wx 0 (.slice Av nH cv) (keysI L').reverse) (fun _ i _ => nH - (intOf i).toNat)
            case atStart => exact ⟨0, Nat.zero_le _, rfl, HMH.out.as (fun s => by simp) (fun s => by simp) rfl, HbH.out, HI.out.more (Nat.zero_le _)⟩
            case round =>
              obtain ⟨j2, hj2, rfl, hM, hbx, hIx⟩ := hrel
              have HM := Lib.hid hM
              have Hbx := Lib.hid hbx
              have HIx := Lib.hid hIx
              clear hM hbx hIx
              by_cases hlt2 : j2 < nH
              · have hjl : j2 < (keysI L').reverse.length := by rw [← HnH.out]; exact hlt2
                obtain ⟨gv, cv', hv, hcell, _⟩ := HIx.out.get hjl
                obtain rfl : Av = some ⟨gv, 0, none⟩ := by injection hv
                clear hv
                obtain ⟨z, hz⟩ : ∃ z, z = (keysI L').reverse[j2] := ⟨_, rfl⟩
                rw [← hz] at hcell
                have hzI : I64 z := by
                  have hzm : z ∈ (keysI L').reverse := by rw [hz]; exact List.getElem_mem hjl
                  rw [List.mem_reverse] at hzm
                  obtain ⟨p, hp, rfl⟩ := List.mem_map.1 hzm
                  exact I64_nat (Nat.le_trans (Nat.le_of_lt (CT.out.fine.key p hp)) CT.out.fine.n)
                have hzn : z ∉ (keysI L').reverse.take j2 := by
                  rw [hz]
                  intro hm
                  obtain ⟨i2, hi2, he⟩ := List.getElem_of_mem hm
                  rw [List.getElem_take] at he
                  have := nodup_inj HND.out (i := i2) (j := j2) (by simp at hi2 ⊢; omega) hjl he
                  simp at hi2
                  omega
                have htk : (keysI L').reverse.take (j2 + 1) = (keysI L').reverse.take j2 ++ [z] := by rw [hz]; exact List.take_succ_eq_append_getElem hjl
                have hlk := (HM.out.look boolE Try.underlying46 hzI).1
                rw [decide_eq_false hzn] at hlk
                have HzI := Lib.hid hzI
                have Hzn := Lib.hid hzn
                have Htk := Lib.hid htk
                clear hz hzI hzn htk hjl
                go_wp2_with (at_mapUpdate; refine wpList_mput (β := Bool) (enc := Value.bool) rfl (.tmp 140) (.tmp 141) (.const (.bool true)) rfl boolE Try.underlying46 rfl HM.out (by unfold maxLen; omega) HzI.out rfl (x := true) trivial rfl ?_; intro wy hMy hGy; have HMy := Lib.hid hMy; have HGy := Lib.hid hGy; clear hMy hGy)
                go_roundw
                case rel =>
                  refine ⟨j2 + 1, by omega, by go_num, ?_, Hbx.out.grown HGy.out Hbx.out.size (fun t ht => by cases ht; rw [Hgm.out]; exact Nat.le_refl _), HIx.out.keep fun g hg => HGy.out.block g (HIx.out.lt hg).1 fun e => by injection e with e; have := hib2.out g hg; omega⟩
                  refine HMy.out.as (fun s => ?_) (fun s => ?_) ?_
                  · rw [Htk.out]; by_cases hs : s = z <;> simp [hs]
                  · rw [Htk.out]; by_cases hs : s = z <;> simp [hs]
                  · rw [decide_eq_false Hzn.out]; simp
                case measure => simp [intOf]; omega
              · obtain rfl : j2 = nH := by omega
                have hlenf := HM.out.len Try.underlying46
                have hgt : ¬ ((rm : Int) < (j2 : Int)) := by omega
                go_wp2
                go_roundw
                case rel => exact ⟨j + 1, V, L', k', S', by omega, by go_num, OT.out.below Hbx.out, CT.out, BT.out.below Hbx.out BT.out.lt, NT.out, VT.out, LT.out.trans (Hbx.out.mono LT.out.size)⟩
                case measure => simp [intOf]; omega
          · obtain rfl : err = 5 := by omega
            clear hne1 herr hne
            go_wp2
            refine wp_region_held_drew (S := fun u : World => Below w6.heap.size w6 u) (by kernel_rfl) (Below.refl _ _).drew (fun hHeld => ?_)
            refine wpAnyH_take (i := 0) (oi := _) (v := ?_) (by simp only [List.getElem?_toArray, List.getElem?_cons_zero]; rfl) (by kernel_rfl) (by kernel_rfl) (by kernel_rfl) (by exact fun _ _ _ h => h) (Or.inl ⟨by rfl, ?hyi0⟩) ((Below.refl _ _).drew) ?rei0
            case hyi0 => (intro u hSw; clear hSw; go_simp <;> with_reducible rfl)
            try simp only [Act.put, List.setIfInBounds_toArray, List.set_cons_zero, List.set_cons_succ]
            refine wpAnyH_take (i := 1) (oi := _) (v := ?_) (by simp only [List.getElem?_toArray, List.getElem?_cons_succ, List.getElem?_cons_zero]; rfl) (by kernel_rfl) (by kernel_rfl) (by kernel_rfl) (by exact fun _ _ _ h => h) (Or.inl ⟨by rfl, ?hyi1⟩) ((Below.refl _ _).drew) ?rei1
            case hyi1 => (intro u hSw; clear hSw; go_simp <;> with_reducible rfl)
            try simp only [Act.put, List.setIfInBounds_toArray, List.set_cons_zero, List.set_cons_succ]
            refine wpAnyH_take (i := 2) (oi := _) (v := ?_) (by simp only [List.getElem?_toArray, List.getElem?_cons_succ, List.getElem?_cons_zero]; rfl) (by kernel_rfl) (by kernel_rfl) (by kernel_rfl) (by exact fun _ _ _ h => h) (Or.inl ⟨by rfl, ?hyi2⟩) ((Below.refl _ _).drew) ?rei2
            case hyi2 => (intro u hSw; clear hSw; go_simp <;> with_reducible rfl)
            try simp only [Act.put, List.setIfInBounds_toArray, List.set_cons_zero, List.set_cons_succ]
            refine wpAnyH_take (i := 3) (oi := _) (v := ?_) (by simp only [List.getElem?_toArray, List.getElem?_cons_succ, List.getElem?_cons_zero]; rfl) (by kernel_rfl) (by kernel_rfl) (by kernel_rfl) (by exact fun _ _ _ h => h) (Or.inl ⟨by rfl, ?hyi3⟩) ((Below.refl _ _).drew) ?rei3
            case hyi3 => (intro u hSw; clear hSw; go_simp <;> with_reducible rfl)
            try simp only [Act.put, List.setIfInBounds_toArray, List.set_cons_zero, List.set_cons_succ]
            refine wpAnyH_take (i := 4) (oi := _) (v := ?_) (by simp only [List.getElem?_toArray, List.getElem?_cons_succ, List.getElem?_cons_zero]; rfl) (by kernel_rfl) (by kernel_rfl) (by kernel_rfl) (by exact fun _ _ _ h => h) (Or.inl ⟨by rfl, ?hyi4⟩) ((Below.refl _ _).drew) ?rei4
            case hyi4 => (intro u hSw; clear hSw; go_simp <;> with_reducible rfl)
            try simp only [Act.put, List.setIfInBounds_toArray, List.set_cons_zero, List.set_cons_succ]
            refine wpAnyH_take (i := 5) (oi := _) (v := ?_) (by simp only [List.getElem?_toArray, List.getElem?_cons_succ, List.getElem?_cons_zero]; rfl) (by kernel_rfl) (by kernel_rfl) (by kernel_rfl) (by exact fun _ _ _ h => h) (Or.inl ⟨by rfl, ?hyi5⟩) ((Below.refl _ _).drew) ?rei5
            case hyi5 => (intro u hSw; clear hSw; go_simp <;> with_reducible rfl)
            try simp only [Act.put, List.setIfInBounds_toArray, List.set_cons_zero, List.set_cons_succ]
            refine wpAnyH_take (i := 6) (oi := _) (v := ?_) (by simp only [List.getElem?_toArray, List.getElem?_cons_succ, List.getElem?_cons_zero]; rfl) (by kernel_rfl) (by kernel_rfl) (by kernel_rfl) (by exact fun _ _ _ h => h) (Or.inl ⟨by rfl, ?hyi6⟩) ((Below.refl _ _).drew) ?rei6
            case hyi6 => (intro u hSw; clear hSw; go_simp <;> with_reducible rfl)
            try simp only [Act.put, List.setIfInBounds_toArray, List.set_cons_zero, List.set_cons_succ]
            refine wpAnyH_take (i := 7) (oi := _) (v := ?_) (by simp only [List.getElem?_toArray, List.getElem?_cons_succ, List.getElem?_cons_zero]; rfl) (by kernel_rfl) (by kernel_rfl) (by kernel_rfl) (by exact fun _ _ _ h => h) (Or.inl ⟨by rfl, ?hyi7⟩) ((Below.refl _ _).drew) ?rei7
            case hyi7 => (intro u hSw; clear hSw; go_simp <;> with_reducible rfl)
            try simp only [Act.put, List.setIfInBounds_toArray, List.set_cons_zero, List.set_cons_succ]
            refine wpAnyH_take (i := 8) (oi := _) (v := ?_) (by simp only [List.getElem?_toArray, List.getElem?_cons_succ, List.getElem?_cons_zero]; rfl) (by kernel_rfl) (by kernel_rfl) (by kernel_rfl) (by exact fun _ _ _ h => h) (Or.inl ⟨by rfl, ?hyi8⟩) ((Below.refl _ _).drew) ?rei8
            case hyi8 => (intro u hSw; clear hSw; go_simp <;> with_reducible rfl)
            try simp only [Act.put, List.setIfInBounds_toArray, List.set_cons_zero, List.set_cons_succ]
            refine wpAnyH_take (i := 9) (oi := _) (v := ?_) (by simp only [List.getElem?_toArray, List.getElem?_cons_succ, List.getElem?_cons_zero]; rfl) (by kernel_rfl) (by kernel_rfl) (by kernel_rfl) (by exact fun _ _ _ h => h) (Or.inl ⟨by rfl, ?hyi9⟩) ((Below.refl _ _).drew) ?rei9
            case hyi9 => (intro u hSw; clear hSw; go_simp <;> with_reducible rfl)
            try simp only [Act.put, List.setIfInBounds_toArray, List.set_cons_zero, List.set_cons_succ]
            refine wpAnyH_take (i := 10) (oi := _) (v := undef) (by simp only [List.getElem?_toArray, List.getElem?_cons_succ, List.getElem?_cons_zero]; rfl) (by kernel_rfl) (by kernel_rfl) (by kernel_rfl) (by exact fun _ _ _ h => h) (Or.inr ⟨by rfl, rfl⟩) ((Below.refl _ _).drew) ?_
            try simp only [Act.put, List.setIfInBounds_toArray, List.set_cons_zero, List.set_cons_succ]
            refine wpAnyH_take (i := 11) (oi := _) (v := undef) (by simp only [List.getElem?_toArray, List.getElem?_cons_succ, List.getElem?_cons_zero]; rfl) (by kernel_rfl) (by kernel_rfl) (by kernel_rfl) (by exact fun _ _ _ h => h) (Or.inr ⟨by rfl, rfl⟩) ((Below.refl _ _).drew) ?_
            try simp only [Act.put, List.setIfInBounds_toArray, List.set_cons_zero, List.set_cons_succ]
            refine wpAnyH_take (i := 12) (oi := _) (v := undef) (by simp only [List.getElem?_toArray, List.getElem?_cons_succ, List.getElem?_cons_zero]; rfl) (by kernel_rfl) (by kernel_rfl) (by kernel_rfl) (by exact fun _ _ _ h => h) (Or.inr ⟨by rfl, rfl⟩) ((Below.refl _ _).drew) ?_
            try simp only [Act.put, List.setIfInBounds_toArray, List.set_cons_zero, List.set_cons_succ]
            refine wpAnyH_take (i := 13) (oi := _) (v := undef) (by simp only [List.getElem?_toArray, List.getElem?_cons_succ, List.getElem?_cons_zero]; rfl) (by kernel_rfl) (by kernel_rfl) (by kernel_rfl) (by exact fun _ _ _ h => h) (Or.inr ⟨by rfl, rfl⟩) ((Below.refl _ _).drew) ?_
            try simp only [Act.put, List.setIfInBounds_toArray, List.set_cons_zero, List.set_cons_succ]
            refine wpAnyH_take (i := 14) (oi := _) (v := undef) (by simp only [List.getElem?_toArray, List.getElem?_cons_succ, List.getElem?_cons_zero]; rfl) (by kernel_rfl) (by kernel_rfl) (by kernel_rfl) (by exact fun _ _ _ h => h) (Or.inr ⟨by rfl, rfl⟩) ((Below.refl _ _).drew) ?_
            try simp only [Act.put, List.setIfInBounds_toArray, List.set_cons_zero, List.set_cons_succ]
            refine wpAnyH_take (i := 15) (oi := _) (v := undef) (by simp only [List.getElem?_toArray, List.getElem?_cons_succ, List.getElem?_cons_zero]; rfl) (by kernel_rfl) (by kernel_rfl) (by kernel_rfl) (by exact fun _ _ _ h => h) (Or.inr ⟨by rfl, rfl⟩) ((Below.refl _ _).drew) ?_
            try simp only [Act.put, List.setIfInBounds_toArray, List.set_cons_zero, List.set_cons_succ]
            refine wpAnyH_take (i := 16) (oi := _) (v := undef) (by simp only [List.getElem?_toArray, List.getElem?_cons_succ, List.getElem?_cons_zero]; rfl) (by kernel_rfl) (by kernel_rfl) (by kernel_rfl) (by exact fun _ _ _ h => h) (Or.inr ⟨by rfl, rfl⟩) ((Below.refl _ _).drew) ?_
            try simp only [Act.put, List.setIfInBounds_toArray, List.set_cons_zero, List.set_cons_succ]
            refine wpAnyH_take (i := 17) (oi := _) (v := undef) (by simp only [List.getElem?_toArray, List.getElem?_cons_succ, List.getElem?_cons_zero]; rfl) (by kernel_rfl) (by kernel_rfl) (by kernel_rfl) (by exact fun _ _ _ h => h) (Or.inr ⟨by rfl, rfl⟩) ((Below.refl _ _).drew) ?_
            try simp only [Act.put, List.setIfInBounds_toArray, List.set_cons_zero, List.set_cons_succ]
            refine wpAnyH_take (i := 18) (oi := _) (v := undef) (by simp only [List.getElem?_toArray, List.getElem?_cons_succ, List.getElem?_cons_zero]; rfl) (by kernel_rfl) (by kernel_rfl) (by kernel_rfl) (by exact fun _ _ _ h => h) (Or.inr ⟨by rfl, rfl⟩) ((Below.refl _ _).drew) ?_
            try simp only [Act.put, List.setIfInBounds_toArray, List.set_cons_zero, List.set_cons_succ]
            refine wpAnyH_take (i := 19) (oi := _) (v := undef) (by simp only [List.getElem?_toArray, List.getElem?_cons_succ, List.getElem?_cons_zero]; rfl) (by kernel_rfl) (by kernel_rfl) (by kernel_rfl) (by exact fun _ _ _ h => h) (Or.inr ⟨by rfl, rfl⟩) ((Below.refl _ _).drew) ?_
            try simp only [Act.put, List.setIfInBounds_toArray, List.set_cons_zero, List.set_cons_succ]
            refine wpAnyH_take (i := 20) (oi := _) (v := ?_) (by simp only [List.getElem?_toArray, List.getElem?_cons_succ, List.getElem?_cons_zero]; rfl) (by kernel_rfl) (by kernel_rfl) (by kernel_rfl) (by exact fun _ _ _ h => h) (Or.inl ⟨by rfl, ?hyi20⟩) ((Below.refl _ _).drew) ?rei20
            case hyi20 => (intro u hSw; clear hSw; go_simp <;> with_reducible rfl)
            try simp only [Act.put, List.setIfInBounds_toArray, List.set_cons_zero, List.set_cons_succ]
            refine wpAnyH_take (i := 21) (oi := _) (v := ?_) (by simp only [List.getElem?_toArray, List.getElem?_cons_succ, List.getElem?_cons_zero]; rfl) (by kernel_rfl) (by kernel_rfl) (by kernel_rfl) (by exact fun _ _ _ h => h) (Or.inl ⟨by rfl, ?hyi21⟩) ((Below.refl _ _).drew) ?rei21
            case hyi21 => (intro u hSw; clear hSw; go_simp <;> with_reducible rfl)
            try simp only [Act.put, List.setIfInBounds_toArray, List.set_cons_zero, List.set_cons_succ]
            refine wpAnyH_done (by kernel_rfl) ?_ _
            have OT := Lib.hid (O6.out.below (Below.refl _ w6).drew)
            have CT := C6
            have BT := Lib.hid (BL6.out.below (Below.refl _ w6).drew BL6.out.lt)
            have NT := N6
            have VT := HV
            have LT := Lib.hid L6.out.drew
            clear O6 C6 BL6 BA6 N6 HV L6 NL
            generalize w6.drew = wT at *
            have hTc := OT.out.cache
            obtain ⟨ScT, hcT⟩ := hTc
            have hlen1 := CT.out.room
            have hll : L'.length ≤ 10000 := CT.out.fine.len
            have hnd := (keys_nodup CT.out.nod)
            have HND : Hid ((keysI L').reverse.Nodup) := List.pairwise_reverse.2 (hnd.imp fun h => Ne.symm h)
            have HKL : Hid ((keysI L').reverse.length ≤ rm) := by unfold Hid; simp [keysI]; exact hlen1
            have hMm := MapIs.made wT (plainElem (H := Unit) Try.prog 4) (fun x : Bool => (.lit (.bool x) : DataW Unit)) false
            have hbm : Below wT.heap.size wT (wT.alloc (.map #[] 0)) := (Below.refl _ _).alloc (Nat.le_refl _) _
            have CM0 := Lib.hid (hcT.below hbm)
            have HM0 := Lib.hid hMm
            have Hbm := Lib.hid hbm
            have Hll := Lib.hid hll
            have hmm := @run_makeMap Try.prog
            clear hcT hlen1 hll hnd hMm hbm
            go_wp2_with (go_at_call 18; refine (has_cached CM0.out Hll.out).mono ?_; rintro e wH ⟨v, rfl, hI, hb⟩; obtain ⟨Av, cv, hv, hvl, hvm⟩ := hI.len; obtain ⟨nH, hnH⟩ : ∃ nH, nH = (keysI L').reverse.length := ⟨_, rfl⟩; rw [← hnH] at hv; subst hv; have HI := Lib.hid hI; have HbH := Lib.hid (Hbm.out.trans (hb.mono Hbm.out.size)); have HMH := Lib.hid (HM0.out.keep (w' := wH) (hb.block _ HM0.out.lt)); have HnH := Lib.hid hnH; have hlb : wT.heap.size < wH.heap.size := Nat.lt_of_lt_of_le (by simp) hb.size; have hibase := Lib.hid (fun g (hg : (Value.slice Av nH cv).ownBlock = some g) => (HI.out.lt hg).2.1); clear hI hb hnH hvl hvm)
            obtain ⟨gm, hgm⟩ : ∃ gm, gm = wT.heap.size := ⟨_, rfl⟩
            have Hgm := Lib.hid hgm
            rw [← hgm] at HMH hlb ⊢
            have hib2 : Hid (∀ g, (Value.slice Av nH cv).ownBlock = some g → gm < g) := fun g hg => by have := hibase.out g hg; simp at this; omega
            have hnr : nH ≤ rm := by rw [HnH.out]; exact HKL.out
            have hrm9 : rm ≤ 9 := Hrl.out.2
            clear hgm hmm
            go_loopw [19, 133] (fun _ i wx => ∃ j2 : Nat, j2 ≤ nH ∧ i = .int .i64 (j2 : Int) ∧ MapIs (plainElem (H := Unit) Try.prog 4) (fun x : Bool => (.lit (.bool x) : DataW Unit)) false wx gm (fun s => decide (s ∈ (keysI L').reverse.take j2)) (fun s => decide (s ∈ (keysI L').reverse.take j2)) j2 ∧ Below wT.heap.size wT wx ∧ Ints wx 0 (.slice Av nH cv) (keysI L').reverse) (fun _ i _ => nH - (intOf i).toNat)
            case atStart => exact ⟨0, Nat.zero_le _, rfl, HMH.out.as (fun s => by simp) (fun s => by simp) rfl, HbH.out, HI.out.more (Nat.zero_le _)⟩
            case round =>
              obtain ⟨j2, hj2, rfl, hM, hbx, hIx⟩ := hrel
              have HM := Lib.hid hM
              have Hbx := Lib.hid hbx
              have HIx := Lib.hid hIx
              clear hM hbx hIx
              by_cases hlt2 : j2 < nH
              · have hjl : j2 < (keysI L').reverse.length := by rw [← HnH.out]; exact hlt2
                obtain ⟨gv, cv', hv, hcell, _⟩ := HIx.out.get hjl
                obtain rfl : Av = some ⟨gv, 0, none⟩ := by injection hv
                clear hv
                obtain ⟨z, hz⟩ : ∃ z, z = (keysI L').reverse[j2] := ⟨_, rfl⟩
                rw [← hz] at hcell
                have hzI : I64 z := by
                  have hzm : z ∈ (keysI L').reverse := by rw [hz]; exact List.getElem_mem hjl
                  rw [List.mem_reverse] at hzm
                  obtain ⟨p, hp, rfl⟩ := List.mem_map.1 hzm
                  exact I64_nat (Nat.le_trans (Nat.le_of_lt (CT.out.fine.key p hp)) CT.out.fine.n)
                have hzn : z ∉ (keysI L').reverse.take j2 := by
                  rw [hz]
                  intro hm
                  obtain ⟨i2, hi2, he⟩ := List.getElem_of_mem hm
                  rw [List.getElem_take] at he
                  have := nodup_inj HND.out (i := i2) (j := j2) (by simp at hi2 ⊢; omega) hjl he
                  simp at hi2
                  omega
                have htk : (keysI L').reverse.take (j2 + 1) = (keysI L').reverse.take j2 ++ [z] := by rw [hz]; exact List.take_succ_eq_append_getElem hjl
                have hlk := (HM.out.look boolE Try.underlying46 hzI).1
                rw [decide_eq_false hzn] at hlk
                have HzI := Lib.hid hzI
                have Hzn := Lib.hid hzn
                have Htk := Lib.hid htk
                clear hz hzI hzn htk hjl
                go_wp2_with (at_mapUpdate; refine wpList_mput (β := Bool) (enc := Value.bool) rfl (.tmp 140) (.tmp 141) (.const (.bool true)) rfl boolE Try.underlying46 rfl HM.out (by unfold maxLen; omega) HzI.out rfl (x := true) trivial rfl ?_; intro wy hMy hGy; have HMy := Lib.hid hMy; have HGy := Lib.hid hGy; clear hMy hGy)
                go_roundw
                case rel =>
                  refine ⟨j2 + 1, by omega, by go_num, ?_, Hbx.out.grown HGy.out Hbx.out.size (fun t ht => by cases ht; rw [Hgm.out]; exact Nat.le_refl _), HIx.out.keep fun g hg => HGy.out.block g (HIx.out.lt hg).1 fun e => by injection e with e; have := hib2.out g hg; omega⟩
                  refine HMy.out.as (fun s => ?_) (fun s => ?_) ?_
                  · rw [Htk.out]; by_cases hs : s = z <;> simp [hs]
                  · rw [Htk.out]; by_cases hs : s = z <;> simp [hs]
                  · rw [decide_eq_false Hzn.out]; simp
                case measure => simp [intOf]; omega
              · obtain rfl : j2 = nH := by omega
                have hlenf := HM.out.len Try.underlying46
                have hgt : ¬ ((rm : Int) < (j2 : Int)) := by omega
                go_wp2
                go_roundw
                case rel => exact ⟨j + 1, V, L', k', S', by omega, by go_num, OT.out.below Hbx.out, CT.out, BT.out.below Hbx.out BT.out.lt, NT.out, VT.out, LT.out.trans (Hbx.out.mono LT.out.size)⟩
                case measure => simp [intOf]; omega
        · have hhas : k.has (t : Int) = true := by simp [Dk.has, C.out.len]; omega
          have Hhas := Lib.hid hhas
          clear hhas
          go_wp2_with fail
          refine (patch_any (t : Int) ac hac _).mono ?_
          rintro e w5 ⟨g5, rfl, hg5, hB5, hb5⟩
          have O1 := Lib.hid (O0.out.below hb5)
          have BL1 := Lib.hid (BL0.out.below hb5 BL0.out.lt)
          have BA1 := Lib.hid (BA0.out.below hb5 BA0.out.lt)
          have L1 := Lib.hid (L0.out.trans (hb5.mono L0.out.size))
          have N5 : Hid (¬ S g5) := O0.out.new hg5
          have B5 := Lib.hid hB5
          clear hg5 hB5 hb5 O BL LL L0 O0 BL0 BA0
          go_wp2_with fail
          refine (cput_all O1.out L1.out.size C.out.fine (by have := HJ.out; omega) (t : Int) B5.out N5.out).mono ?_
          rintro e w6 ⟨err, L', k', S', rfl, hR, hO, hst⟩
          have hne1 : err ≠ 1 := fun e => by
            rcases hR with ⟨_, _, _, _, _, _, _, h⟩ | ⟨_, _, _, _, _, _, _, h⟩ | ⟨_, _, _, _, _, _, _, h⟩ | ⟨h, _⟩
            · omega
            · omega
            · omega
            · rw [Hhas.out] at h; cases h
          have O6 := Lib.hid hO
          have BL6 := Lib.hid (hst.bk BL1.out fun h => NL.out gl h rfl)
          have BA6 := Lib.hid (hst.bk BA1.out NA0.out)
          have N6 : Hid (∀ t, S' t → t ≠ gl) := fun u hu e => hst.not BL1.out.lt (fun h => NL.out gl h rfl) (e ▸ hu)
          have L6 := Lib.hid (L1.out.trans (hst.below O1.out.2 L1.out.size))
          have hcp := coh_put C.out Hrl.out.1 (Nat.le_trans Hrl.out.2 (by decide)) hR
          clear hO hst O1 BL1 BA1 L1 N5 B5 hR
          rcases hcp with ⟨rfl, t', ht', _, hC'⟩ | ⟨herr, hC'⟩
          · obtain rfl : t' = t := by omega
            have CT : Hid (Coh 8 (j + 1) rm (fun s => if s = t' then ac else V s) (j + 1) L' k') := hC'.up (Nat.le_refl _) (Nat.le_succ _)
            have a1 : w6.cell? ⟨wr.heap.size, 1, none⟩ = some (.int .i64 (t' : Int)) := BA6.out.cell 1
            have a2 : w6.cell? ⟨wr.heap.size, 2, none⟩ = some (.int .u8 (ac : Int)) := BA6.out.cell 2
            have l1 : w6.cell? ⟨gl, t', none⟩ = some (.int .u8 (V t' : Int)) := (BL6.out.cell t').trans (lastV_get V ht8)
            have f1 := BL6.out.frozen t'
            have hB7 := BL6.out.set t' (.int .u8 (ac : Int))
            rw [lastV_set] at hB7
            have BT := Lib.hid hB7
            have OT : Hid (Ours w.heap.size (w6.setCell ⟨gl, t', none⟩ (.int .u8 (ac : Int))) b bd rm L' k' S') := ⟨O6.out.1.keep fun i hi => Below.heap_setCell w6 ⟨gl, t', none⟩ _ i (N6.out i hi), O6.out.2⟩
            have NT := N6
            have LT := Lib.hid (L6.out.setCell (p := ⟨gl, t', none⟩) G4.out (.int .u8 (ac : Int)))
            have VT : Hid (∀ s, (fun s => if s = t' then ac else V s) s < 256) := fun s => by
              simp only
              split
              · exact hac
              · exact HV.out s
            clear C NL HV hB7 hC' hne1 O6 BL6 BA6 N6 L6
            go_upto_region 30 with fail
            generalize w6.setCell ⟨gl, t', none⟩ (.int .u8 (ac : Int)) = wT at *
            have hTc := OT.out.cache
            obtain ⟨ScT, hcT⟩ := hTc
            have hlen1 := CT.out.room
            have hll : L'.length ≤ 10000 := CT.out.fine.len
            have hnd := (keys_nodup CT.out.nod)
            have HND : Hid ((keysI L').reverse.Nodup) := List.pairwise_reverse.2 (hnd.imp fun h => Ne.symm h)
            have HKL : Hid ((keysI L').reverse.length ≤ rm) := by unfold Hid; simp [keysI]; exact hlen1
            have hMm := MapIs.made wT (plainElem (H := Unit) Try.prog 4) (fun x : Bool => (.lit (.bool x) : DataW Unit)) false
            have hbm : Below wT.heap.size wT (wT.alloc (.map #[] 0)) := (Below.refl _ _).alloc (Nat.le_refl _) _
            have CM0 := Lib.hid (hcT.below hbm)
            have HM0 := Lib.hid hMm
            have Hbm := Lib.hid hbm
            have Hll := Lib.hid hll
            have hmm := @run_makeMap Try.prog
            clear hcT hlen1 hll hnd hMm hbm
            go_wp2_with (go_at_call 18; refine (has_cached CM0.out Hll.out).mono ?_; rintro e wH ⟨v, rfl, hI, hb⟩; obtain ⟨Av, cv, hv, hvl, hvm⟩ := hI.len; obtain ⟨nH, hnH⟩ : ∃ nH, nH = (keysI L').reverse.length := ⟨_, rfl⟩; rw [← hnH] at hv; subst hv; have HI := Lib.hid hI; have HbH := Lib.hid (Hbm.out.trans (hb.mono Hbm.out.size)); have HMH := Lib.hid (HM0.out.keep (w' := wH) (hb.block _ HM0.out.lt)); have HnH := Lib.hid hnH; have hlb : wT.heap.size < wH.heap.size := Nat.lt_of_lt_of_le (by simp) hb.size; have hibase := Lib.hid (fun g (hg : (Value.slice Av nH cv).ownBlock = some g) => (HI.out.lt hg).2.1); clear hI hb hnH hvl hvm)
            obtain ⟨gm, hgm⟩ : ∃ gm, gm = wT.heap.size := ⟨_, rfl⟩
            have Hgm := Lib.hid hgm
            rw [← hgm] at HMH hlb ⊢
            have hib2 : Hid (∀ g, (Value.slice Av nH cv).ownBlock = some g → gm < g) := fun g hg => by have := hibase.out g hg; simp at this; omega
            have hnr : nH ≤ rm := by rw [HnH.out]; exact HKL.out
            have hrm9 : rm ≤ 9 := Hrl.out.2
            clear hgm hmm
            go_loopw [19, 133] (fun _ i wx => ∃ j2 : Nat, j2 ≤ nH ∧ i = .int .i64 (j2 : Int) ∧ MapIs (plainElem (H := Unit) Try.prog 4) (fun x : Bool => (.lit (.bool x) : DataW Unit)) false wx gm (fun s => decide (s ∈ (keysI L').reverse.take j2)) (fun s => decide (s ∈ (keysI L').reverse.take j2)) j2 ∧ Below wT.heap.size wT wx ∧ Ints wx 0 (.slice Av nH cv) (keysI L').reverse) (fun _ i _ => nH - (intOf i).toNat)
            case atStart => exact ⟨0, Nat.zero_le _, rfl, HMH.out.as (fun s => by simp) (fun s => by simp) rfl, HbH.out, HI.out.more (Nat.zero_le _)⟩
            case round =>
              obtain ⟨j2, hj2, rfl, hM, hbx, hIx⟩ := hrel
              have HM := Lib.hid hM
              have Hbx := Lib.hid hbx
              have HIx := Lib.hid hIx
              clear hM hbx hIx
              by_cases hlt2 : j2 < nH
              · have hjl : j2 < (keysI L').reverse.length := by rw [← HnH.out]; exact hlt2
                obtain ⟨gv, cv', hv, hcell, _⟩ := HIx.out.get hjl
                obtain rfl : Av = some ⟨gv, 0, none⟩ := by injection hv
                clear hv
                obtain ⟨z, hz⟩ : ∃ z, z = (keysI L').reverse[j2] := ⟨_, rfl⟩
                rw [← hz] at hcell
                have hzI : I64 z := by
                  have hzm : z ∈ (keysI L').reverse := by rw [hz]; exact List.getElem_mem hjl
                  rw [List.mem_reverse] at hzm
                  obtain ⟨p, hp, rfl⟩ := List.mem_map.1 hzm
                  exact I64_nat (Nat.le_trans (Nat.le_of_lt (CT.out.fine.key p hp)) CT.out.fine.n)
                have hzn : z ∉ (keysI L').reverse.take j2 := by
                  rw [hz]
                  intro hm
                  obtain ⟨i2, hi2, he⟩ := List.getElem_of_mem hm
                  rw [List.getElem_take] at he
                  have := nodup_inj HND.out (i := i2) (j := j2) (by simp at hi2 ⊢; omega) hjl he
                  simp at hi2
                  omega
                have htk : (keysI L').reverse.take (j2 + 1) = (keysI L').reverse.take j2 ++ [z] := by rw [hz]; exact List.take_succ_eq_append_getElem hjl
                have hlk := (HM.out.look boolE Try.underlying46 hzI).1
                rw [decide_eq_false hzn] at hlk
                have HzI := Lib.hid hzI
                have Hzn := Lib.hid hzn
                have Htk := Lib.hid htk
                clear hz hzI hzn htk hjl
                go_wp2_with (at_mapUpdate; refine wpList_mput (β := Bool) (enc := Value.bool) rfl (.tmp 140) (.tmp 141) (.const (.bool true)) rfl boolE Try.underlying46 rfl HM.out (by unfold maxLen; omega) HzI.out rfl (x := true) trivial rfl ?_; intro wy hMy hGy; have HMy := Lib.hid hMy; have HGy := Lib.hid hGy; clear hMy hGy)
                go_roundw
                case rel =>
                  refine ⟨j2 + 1, by omega, by go_num, ?_, Hbx.out.grown HGy.out Hbx.out.size (fun t ht => by cases ht; rw [Hgm.out]; exact Nat.le_refl _), HIx.out.keep fun g hg => HGy.out.block g (HIx.out.lt hg).1 fun e => by injection e with e; have := hib2.out g hg; omega⟩
                  refine HMy.out.as (fun s => ?_) (fun s => ?_) ?_
                  · rw [Htk.out]; by_cases hs : s = z <;> simp [hs]
                  · rw [Htk.out]; by_cases hs : s = z <;> simp [hs]
                  · rw [decide_eq_false Hzn.out]; simp
                case measure => simp [intOf]; omega
              · obtain rfl : j2 = nH := by omega
                have hlenf := HM.out.len Try.underlying46
                have hgt : ¬ ((rm : Int) < (j2 : Int)) := by omega
                go_wp2
                go_roundw
                case rel => exact ⟨j + 1, (fun s => if s = t' then ac else V s), L', k', S', by omega, by go_num, OT.out.below Hbx.out, CT.out, BT.out.below Hbx.out BT.out.lt, NT.out, VT.out, LT.out.trans (Hbx.out.mono LT.out.size)⟩
                case measure => simp [intOf]; omega
          · obtain rfl : err = 5 := by omega
            have CT : Hid (Coh 8 (j + 1) rm V (j + 1) L' k') := hC'.up (Nat.le_refl _) (Nat.le_succ _)
            have OT := O6
            have BT := BL6
            have NT := N6
            have LT := L6
            have VT := HV
            clear C NL HV hC' hne1 herr O6 BL6 BA6 N6 L6
            have hTc := OT.out.cache
            obtain ⟨ScT, hcT⟩ := hTc
            have hlen1 := CT.out.room
            have hll : L'.length ≤ 10000 := CT.out.fine.len
            have hnd := (keys_nodup CT.out.nod)
            have HND : Hid ((keysI L').reverse.Nodup) := List.pairwise_reverse.2 (hnd.imp fun h => Ne.symm h)
            have HKL : Hid ((keysI L').reverse.length ≤ rm) := by unfold Hid; simp [keysI]; exact hlen1
            have hMm := MapIs.made w6 (plainElem (H := Unit) Try.prog 4) (fun x : Bool => (.lit (.bool x) : DataW Unit)) false
            have hbm : Below w6.heap.size w6 (w6.alloc (.map #[] 0)) := (Below.refl _ _).alloc (Nat.le_refl _) _
            have CM0 := Lib.hid (hcT.below hbm)
            have HM0 := Lib.hid hMm
            have Hbm := Lib.hid hbm
            have Hll := Lib.hid hll
            have hmm := @run_makeMap Try.prog
            clear hcT hlen1 hll hnd hMm hbm
            go_wp2_with (go_at_call 18; refine (has_cached CM0.out Hll.out).mono ?_; rintro e wH ⟨v, rfl, hI, hb⟩; obtain ⟨Av, cv, hv, hvl, hvm⟩ := hI.len; obtain ⟨nH, hnH⟩ : ∃ nH, nH = (keysI L').reverse.length := ⟨_, rfl⟩; rw [← hnH] at hv; subst hv; have HI := Lib.hid hI; have HbH := Lib.hid (Hbm.out.trans (hb.mono Hbm.out.size)); have HMH := Lib.hid (HM0.out.keep (w' := wH) (hb.block _ HM0.out.lt)); have HnH := Lib.hid hnH; have hlb : w6.heap.size < wH.heap.size := Nat.lt_of_lt_of_le (by simp) hb.size; have hibase := Lib.hid (fun g (hg : (Value.slice Av nH cv).ownBlock = some g) => (HI.out.lt hg).2.1); clear hI hb hnH hvl hvm)
            obtain ⟨gm, hgm⟩ : ∃ gm, gm = w6.heap.size := ⟨_, rfl⟩
            have Hgm := Lib.hid hgm
            rw [← hgm] at HMH hlb ⊢
            have hib2 : Hid (∀ g, (Value.slice Av nH cv).ownBlock = some g → gm < g) := fun g hg => by have := hibase.out g hg; simp at this; omega
            have hnr : nH ≤ rm := by rw [HnH.out]; exact HKL.out
            have hrm9 : rm ≤ 9 := Hrl.out.2
            clear hgm hmm
            go_loopw [19, 133] (fun _ i wx => ∃ j2 : Nat, j2 ≤ nH ∧ i = .int .i64 (j2 : Int) ∧ MapIs (plainElem (H := Unit) Try.prog 4) (fun x : Bool => (.lit (.bool x) : DataW Unit)) false wx gm (fun s => decide (s ∈ (keysI L').reverse.take j2)) (fun s => decide (s ∈ (keysI L').reverse.take j2)) j2 ∧ Below w6.heap.size w6 wx ∧ Ints wx 0 (.slice Av nH cv) (keysI L').reverse) (fun _ i _ => nH - (intOf i).toNat)
            case atStart => exact ⟨0, Nat.zero_le _, rfl, HMH.out.as (fun s => by simp) (fun s => by simp) rfl, HbH.out, HI.out.more (Nat.zero_le _)⟩
            case round =>
              obtain ⟨j2, hj2, rfl, hM, hbx, hIx⟩ := hrel
              have HM := Lib.hid hM
              have Hbx := Lib.hid hbx
              have HIx := Lib.hid hIx
              clear hM hbx hIx
              by_cases hlt2 : j2 < nH
              · have hjl : j2 < (keysI L').reverse.length := by rw [← HnH.out]; exact hlt2
                obtain ⟨gv, cv', hv, hcell, _⟩ := HIx.out.get hjl
                obtain rfl : Av = some ⟨gv, 0, none⟩ := by injection hv
                clear hv
                obtain ⟨z, hz⟩ : ∃ z, z = (keysI L').reverse[j2] := ⟨_, rfl⟩
                rw [← hz] at hcell
                have hzI : I64 z := by
                  have hzm : z ∈ (keysI L').reverse := by rw [hz]; exact List.getElem_mem hjl
                  rw [List.mem_reverse] at hzm
                  obtain ⟨p, hp, rfl⟩ := List.mem_map.1 hzm
                  exact I64_nat (Nat.le_trans (Nat.le_of_lt (CT.out.fine.key p hp)) CT.out.fine.n)
                have hzn : z ∉ (keysI L').reverse.take j2 := by
                  rw [hz]
                  intro hm
                  obtain ⟨i2, hi2, he⟩ := List.getElem_of_mem hm
                  rw [List.getElem_take] at he
                  have := nodup_inj HND.out (i := i2) (j := j2) (by simp at hi2 ⊢; omega) hjl he
                  simp at hi2
                  omega
                have htk : (keysI L').reverse.take (j2 + 1) = (keysI L').reverse.take j2 ++ [z] := by rw [hz]; exact List.take_succ_eq_append_getElem hjl
                have hlk := (HM.out.look boolE Try.underlying46 hzI).1
                rw [decide_eq_false hzn] at hlk
                have HzI := Lib.hid hzI
                have Hzn := Lib.hid hzn
                have Htk := Lib.hid htk
                clear hz hzI hzn htk hjl
                go_wp2_with (at_mapUpdate; refine wpList_mput (β := Bool) (enc := Value.bool) rfl (.tmp 140) (.tmp 141) (.const (.bool true)) rfl boolE Try.underlying46 rfl HM.out (by unfold maxLen; omega) HzI.out rfl (x := true) trivial rfl ?_; intro wy hMy hGy; have HMy := Lib.hid hMy; have HGy := Lib.hid hGy; clear hMy hGy)
                go_roundw
                case rel =>
                  refine ⟨j2 + 1, by omega, by go_num, ?_, Hbx.out.grown HGy.out Hbx.out.size (fun t ht => by cases ht; rw [Hgm.out]; exact Nat.le_refl _), HIx.out.keep fun g hg => HGy.out.block g (HIx.out.lt hg).1 fun e => by injection e with e; have := hib2.out g hg; omega⟩
                  refine HMy.out.as (fun s => ?_) (fun s => ?_) ?_
                  · rw [Htk.out]; by_cases hs : s = z <;> simp [hs]
                  · rw [Htk.out]; by_cases hs : s = z <;> simp [hs]
                  · rw [decide_eq_false Hzn.out]; simp
                case measure => simp [intOf]; omega
              · obtain rfl : j2 = nH := by omega
                have hlenf := HM.out.len Try.underlying46
                have hgt : ¬ ((rm : Int) < (j2 : Int)) := by omega
                go_wp2
                go_roundw
                case rel => exact ⟨j + 1, V, L', k', S', by omega, by go_num, OT.out.below Hbx.out, CT.out, BT.out.below Hbx.out BT.out.lt, NT.out, VT.out, LT.out.trans (Hbx.out.mono LT.out.size)⟩
                case measure => simp [intOf]; omega
        · go_wp2_with fail
          refine (pin_all O0.out L0.out.size C.out.fine (fun p hp => Nat.le_trans (C.out.pins p hp) (by have := HJ.out; omega)) (t : Int) (I64_nat (by omega))).mono ?_
          rintro e wT ⟨err, L', S', rfl, hR, hO, hst⟩
          have CT : Hid (Coh 8 (j + 1) rm V (j + 1) L' k) := (coh_pin C.out hR).up (Nat.le_succ _) (Nat.le_refl _)
          have OT := Lib.hid hO
          have BT : Hid (Bk wT gl 31 (lastV V)) := hst.bk BL0.out fun h => NL.out gl h rfl
          have NT : Hid (∀ t, S' t → t ≠ gl) := fun u hu e => hst.not BL0.out.lt (fun h => NL.out gl h rfl) (e ▸ hu)
          have LT := Lib.hid (L0.out.trans (hst.below O0.out.2 L0.out.size))
          have VT := HV
          clear O BL C NL HV LL L0 O0 BL0 hR hO hst
          have hTc := OT.out.cache
          obtain ⟨ScT, hcT⟩ := hTc
          have hlen1 := CT.out.room
          have hll : L'.length ≤ 10000 := CT.out.fine.len
          have hnd := (keys_nodup CT.out.nod)
          have HND : Hid ((keysI L').reverse.Nodup) := List.pairwise_reverse.2 (hnd.imp fun h => Ne.symm h)
          have HKL : Hid ((keysI L').reverse.length ≤ rm) := by unfold Hid; simp [keysI]; exact hlen1
          have hMm := MapIs.made wT (plainElem (H := Unit) Try.prog 4) (fun x : Bool => (.lit (.bool x) : DataW Unit)) false
          have hbm : Below wT.heap.size wT (wT.alloc (.map #[] 0)) := (Below.refl _ _).alloc (Nat.le_refl _) _
          have CM0 := Lib.hid (hcT.below hbm)
          have HM0 := Lib.hid hMm
          have Hbm := Lib.hid hbm
          have Hll := Lib.hid hll
          have hmm := @run_makeMap Try.prog
          clear hcT hlen1 hll hnd hMm hbm
          go_wp2_with (go_at_call 18; refine (has_cached CM0.out Hll.out).mono ?_; rintro e wH ⟨v, rfl, hI, hb⟩; obtain ⟨Av, cv, hv, hvl, hvm⟩ := hI.len; obtain ⟨nH, hnH⟩ : ∃ nH, nH = (keysI L').reverse.length := ⟨_, rfl⟩; rw [← hnH] at hv; subst hv; have HI := Lib.hid hI; have HbH := Lib.hid (Hbm.out.trans (hb.mono Hbm.out.size)); have HMH := Lib.hid (HM0.out.keep (w' := wH) (hb.block _ HM0.out.lt)); have HnH := Lib.hid hnH; have hlb : wT.heap.size < wH.heap.size := Nat.lt_of_lt_of_le (by simp) hb.size; have hibase := Lib.hid (fun g (hg : (Value.slice Av nH cv).ownBlock = some g) => (HI.out.lt hg).2.1); clear hI hb hnH hvl hvm)
          obtain ⟨gm, hgm⟩ : ∃ gm, gm = wT.heap.size := ⟨_, rfl⟩
          have Hgm := Lib.hid hgm
          rw [← hgm] at HMH hlb ⊢
          have hib2 : Hid (∀ g, (Value.slice Av nH cv).ownBlock = some g → gm < g) := fun g hg => by have := hibase.out g hg; simp at this; omega
          have hnr : nH ≤ rm := by rw [HnH.out]; exact HKL.out
          have hrm9 : rm ≤ 9 := Hrl.out.2
          clear hgm hmm
          go_loopw [19, 133] (fun _ i wx => ∃ j2 : Nat, j2 ≤ nH ∧ i = .int .i64 (j2 : Int) ∧ MapIs (plainElem (H := Unit) Try.prog 4) (fun x : Bool => (.lit (.bool x) : DataW Unit)) false wx gm (fun s => decide (s ∈ (keysI L').reverse.take j2)) (fun s => decide (s ∈ (keysI L').reverse.take j2)) j2 ∧ Below wT.heap.size wT wx ∧ Ints wx 0 (.slice Av nH cv) (keysI L').reverse) (fun _ i _ => nH - (intOf i).toNat)
          case atStart => exact ⟨0, Nat.zero_le _, rfl, HMH.out.as (fun s => by simp) (fun s => by simp) rfl, HbH.out, HI.out.more (Nat.zero_le _)⟩
          case round =>
            obtain ⟨j2, hj2, rfl, hM, hbx, hIx⟩ := hrel
            have HM := Lib.hid hM
            have Hbx := Lib.hid hbx
            have HIx := Lib.hid hIx
            clear hM hbx hIx
            by_cases hlt2 : j2 < nH
            · have hjl : j2 < (keysI L').reverse.length := by rw [← HnH.out]; exact hlt2
              obtain ⟨gv, cv', hv, hcell, _⟩ := HIx.out.get hjl
              obtain rfl : Av = some ⟨gv, 0, none⟩ := by injection hv
              clear hv
              obtain ⟨z, hz⟩ : ∃ z, z = (keysI L').reverse[j2] := ⟨_, rfl⟩
              rw [← hz] at hcell
              have hzI : I64 z := by
                have hzm : z ∈ (keysI L').reverse := by rw [hz]; exact List.getElem_mem hjl
                rw [List.mem_reverse] at hzm
                obtain ⟨p, hp, rfl⟩ := List.mem_map.1 hzm
                exact I64_nat (Nat.le_trans (Nat.le_of_lt (CT.out.fine.key p hp)) CT.out.fine.n)
              have hzn : z ∉ (keysI L').reverse.take j2 := by
                rw [hz]
                intro hm
                obtain ⟨i2, hi2, he⟩ := List.getElem_of_mem hm
                rw [List.getElem_take] at he
                have := nodup_inj HND.out (i := i2) (j := j2) (by simp at hi2 ⊢; omega) hjl he
                simp at hi2
                omega
              have htk : (keysI L').reverse.take (j2 + 1) = (keysI L').reverse.take j2 ++ [z] := by rw [hz]; exact List.take_succ_eq_append_getElem hjl
              have hlk := (HM.out.look boolE Try.underlying46 hzI).1
              rw [decide_eq_false hzn] at hlk
              have HzI := Lib.hid hzI
              have Hzn := Lib.hid hzn
              have Htk := Lib.hid htk
              clear hz hzI hzn htk hjl
              go_wp2_with (at_mapUpdate; refine wpList_mput (β := Bool) (enc := Value.bool) rfl (.tmp 140) (.tmp 141) (.const (.bool true)) rfl boolE Try.underlying46 rfl HM.out (by unfold maxLen; omega) HzI.out rfl (x := true) trivial rfl ?_; intro wy hMy hGy; have HMy := Lib.hid hMy; have HGy := Lib.hid hGy; clear hMy hGy)
              go_roundw
              case rel =>
                refine ⟨j2 + 1, by omega, by go_num, ?_, Hbx.out.grown HGy.out Hbx.out.size (fun t ht => by cases ht; rw [Hgm.out]; exact Nat.le_refl _), HIx.out.keep fun g hg => HGy.out.block g (HIx.out.lt hg).1 fun e => by injection e with e; have := hib2.out g hg; omega⟩
                refine HMy.out.as (fun s => ?_) (fun s => ?_) ?_
                · rw [Htk.out]; by_cases hs : s = z <;> simp [hs]
                · rw [Htk.out]; by_cases hs : s = z <;> simp [hs]
                · rw [decide_eq_false Hzn.out]; simp
              case measure => simp [intOf]; omega
            · obtain rfl : j2 = nH := by omega
              have hlenf := HM.out.len Try.underlying46
              have hgt : ¬ ((rm : Int) < (j2 : Int)) := by omega
              go_wp2
              go_roundw
              case rel => exact ⟨j + 1, V, L', k, S', by omega, by go_num, OT.out.below Hbx.out, CT.out, BT.out.below Hbx.out BT.out.lt, NT.out, VT.out, LT.out.trans (Hbx.out.mono LT.out.size)⟩
              case measure => simp [intOf]; omega
        · go_wp2_with fail
          refine (unpin_all O0.out L0.out.size C.out.fine (fun p hp => Nat.le_trans (C.out.pins p hp) (by have := HJ.out; omega)) (t : Int) (I64_nat (by omega))).mono ?_
          rintro e wT ⟨err, L', S', rfl, hR, hO, hst⟩
          have CT : Hid (Coh 8 (j + 1) rm V (j + 1) L' k) := (coh_unpin C.out hR).up (Nat.le_succ _) (Nat.le_refl _)
          have OT := Lib.hid hO
          have BT : Hid (Bk wT gl 31 (lastV V)) := hst.bk BL0.out fun h => NL.out gl h rfl
          have NT : Hid (∀ t, S' t → t ≠ gl) := fun u hu e => hst.not BL0.out.lt (fun h => NL.out gl h rfl) (e ▸ hu)
          have LT := Lib.hid (L0.out.trans (hst.below O0.out.2 L0.out.size))
          have VT := HV
          clear O BL C NL HV LL L0 O0 BL0 hR hO hst
          have hTc := OT.out.cache
          obtain ⟨ScT, hcT⟩ := hTc
          have hlen1 := CT.out.room
          have hll : L'.length ≤ 10000 := CT.out.fine.len
          have hnd := (keys_nodup CT.out.nod)
          have HND : Hid ((keysI L').reverse.Nodup) := List.pairwise_reverse.2 (hnd.imp fun h => Ne.symm h)
          have HKL : Hid ((keysI L').reverse.length ≤ rm) := by unfold Hid; simp [keysI]; exact hlen1
          have hMm := MapIs.made wT (plainElem (H := Unit) Try.prog 4) (fun x : Bool => (.lit (.bool x) : DataW Unit)) false
          have hbm : Below wT.heap.size wT (wT.alloc (.map #[] 0)) := (Below.refl _ _).alloc (Nat.le_refl _) _
          have CM0 := Lib.hid (hcT.below hbm)
          have HM0 := Lib.hid hMm
          have Hbm := Lib.hid hbm
          have Hll := Lib.hid hll
          have hmm := @run_makeMap Try.prog
          clear hcT hlen1 hll hnd hMm hbm
          go_wp2_with (go_at_call 18; refine (has_cached CM0.out Hll.out).mono ?_; rintro e wH ⟨v, rfl, hI, hb⟩; obtain ⟨Av, cv, hv, hvl, hvm⟩ := hI.len; obtain ⟨nH, hnH⟩ : ∃ nH, nH = (keysI L').reverse.length := ⟨_, rfl⟩; rw [← hnH] at hv; subst hv; have HI := Lib.hid hI; have HbH := Lib.hid (Hbm.out.trans (hb.mono Hbm.out.size)); have HMH := Lib.hid (HM0.out.keep (w' := wH) (hb.block _ HM0.out.lt)); have HnH := Lib.hid hnH; have hlb : wT.heap.size < wH.heap.size := Nat.lt_of_lt_of_le (by simp) hb.size; have hibase := Lib.hid (fun g (hg : (Value.slice Av nH cv).ownBlock = some g) => (HI.out.lt hg).2.1); clear hI hb hnH hvl hvm)
          obtain ⟨gm, hgm⟩ : ∃ gm, gm = wT.heap.size := ⟨_, rfl⟩
          have Hgm := Lib.hid hgm
          rw [← hgm] at HMH hlb ⊢
          have hib2 : Hid (∀ g, (Value.slice Av nH cv).ownBlock = some g → gm < g) := fun g hg => by have := hibase.out g hg; simp at this; omega
          have hnr : nH ≤ rm := by rw [HnH.out]; exact HKL.out
          have hrm9 : rm ≤ 9 := Hrl.out.2
          clear hgm hmm
          go_loopw [19, 133] (fun _ i wx => ∃ j2 : Nat, j2 ≤ nH ∧ i = .int .i64 (j2 : Int) ∧ MapIs (plainElem (H := Unit) Try.prog 4) (fun x : Bool => (.lit (.bool x) : DataW Unit)) false wx gm (fun s => decide (s ∈ (keysI L').reverse.take j2)) (fun s => decide (s ∈ (keysI L').reverse.take j2)) j2 ∧ Below wT.heap.size wT wx ∧ Ints wx 0 (.slice Av nH cv) (keysI L').reverse) (fun _ i _ => nH - (intOf i).toNat)
          case atStart => exact ⟨0, Nat.zero_le _, rfl, HMH.out.as (fun s => by simp) (fun s => by simp) rfl, HbH.out, HI.out.more (Nat.zero_le _)⟩
          case round =>
            obtain ⟨j2, hj2, rfl, hM, hbx, hIx⟩ := hrel
            have HM := Lib.hid hM
            have Hbx := Lib.hid hbx
            have HIx := Lib.hid hIx
            clear hM hbx hIx
            by_cases hlt2 : j2 < nH
            · have hjl : j2 < (keysI L').reverse.length := by rw [← HnH.out]; exact hlt2
              obtain ⟨gv, cv', hv, hcell, _⟩ := HIx.out.get hjl
              obtain rfl : Av = some ⟨gv, 0, none⟩ := by injection hv
              clear hv
              obtain ⟨z, hz⟩ : ∃ z, z = (keysI L').reverse[j2] := ⟨_, rfl⟩
              rw [← hz] at hcell
              have hzI : I64 z := by
                have hzm : z ∈ (keysI L').reverse := by rw [hz]; exact List.getElem_mem hjl
                rw [List.mem_reverse] at hzm
                obtain ⟨p, hp, rfl⟩ := List.mem_map.1 hzm
                exact I64_nat (Nat.le_trans (Nat.le_of_lt (CT.out.fine.key p hp)) CT.out.fine.n)
              have hzn : z ∉ (keysI L').reverse.take j2 := by
                rw [hz]
                intro hm
                obtain ⟨i2, hi2, he⟩ := List.getElem_of_mem hm
                rw [List.getElem_take] at he
                have := nodup_inj HND.out (i := i2) (j := j2) (by simp at hi2 ⊢; omega) hjl he
                simp at hi2
                omega
              have htk : (keysI L').reverse.take (j2 + 1) = (keysI L').reverse.take j2 ++ [z] := by rw [hz]; exact List.take_succ_eq_append_getElem hjl
              have hlk := (HM.out.look boolE Try.underlying46 hzI).1
              rw [decide_eq_false hzn] at hlk
              have HzI := Lib.hid hzI
              have Hzn := Lib.hid hzn
              have Htk := Lib.hid htk
              clear hz hzI hzn htk hjl
              go_wp2_with (at_mapUpdate; refine wpList_mput (β := Bool) (enc := Value.bool) rfl (.tmp 140) (.tmp 141) (.const (.bool true)) rfl boolE Try.underlying46 rfl HM.out (by unfold maxLen; omega) HzI.out rfl (x := true) trivial rfl ?_; intro wy hMy hGy; have HMy := Lib.hid hMy; have HGy := Lib.hid hGy; clear hMy hGy)
              go_roundw
              case rel =>
                refine ⟨j2 + 1, by omega, by go_num, ?_, Hbx.out.grown HGy.out Hbx.out.size (fun t ht => by cases ht; rw [Hgm.out]; exact Nat.le_refl _), HIx.out.keep fun g hg => HGy.out.block g (HIx.out.lt hg).1 fun e => by injection e with e; have := hib2.out g hg; omega⟩
                refine HMy.out.as (fun s => ?_) (fun s => ?_) ?_
                · rw [Htk.out]; by_cases hs : s = z <;> simp [hs]
                · rw [Htk.out]; by_cases hs : s = z <;> simp [hs]
                · rw [decide_eq_false Hzn.out]; simp
              case measure => simp [intOf]; omega
            · obtain rfl : j2 = nH := by omega
              have hlenf := HM.out.len Try.underlying46
              have hgt : ¬ ((rm : Int) < (j2 : Int)) := by omega
              go_wp2
              go_roundw
              case rel => exact ⟨j + 1, V, L', k, S', by omega, by go_num, OT.out.below Hbx.out, CT.out, BT.out.below Hbx.out BT.out.lt, NT.out, VT.out, LT.out.trans (Hbx.out.mono LT.out.size)⟩
              case measure => simp [intOf]; omega
        · go_wp2_with fail
          refine (flush_all O0.out L0.out.size C.out.fine (by have := HJ.out; omega) (fun p hp => Nat.le_trans (C.out.pins p hp) (by have := HJ.out; omega))).mono ?_
          rintro e wT ⟨lf, L', k', S', rfl, hR, hO, hst⟩
          have CT : Hid (Coh 8 (j + 1) rm V (j + 1) L' k') := (coh_flush C.out hR).1.up (Nat.zero_le _) (Nat.le_succ _)
          have OT := Lib.hid hO
          have BT : Hid (Bk wT gl 31 (lastV V)) := hst.bk BL0.out fun h => NL.out gl h rfl
          have NT : Hid (∀ t, S' t → t ≠ gl) := fun u hu e => hst.not BL0.out.lt (fun h => NL.out gl h rfl) (e ▸ hu)
          have LT := Lib.hid (L0.out.trans (hst.below O0.out.2 L0.out.size))
          have VT := HV
          clear O BL C NL HV LL L0 O0 BL0 hR hO hst
          have hTc := OT.out.cache
          obtain ⟨ScT, hcT⟩ := hTc
          have hlen1 := CT.out.room
          have hll : L'.length ≤ 10000 := CT.out.fine.len
          have hnd := (keys_nodup CT.out.nod)
          have HND : Hid ((keysI L').reverse.Nodup) := List.pairwise_reverse.2 (hnd.imp fun h => Ne.symm h)
          have HKL : Hid ((keysI L').reverse.length ≤ rm) := by unfold Hid; simp [keysI]; exact hlen1
          have hMm := MapIs.made wT (plainElem (H := Unit) Try.prog 4) (fun x : Bool => (.lit (.bool x) : DataW Unit)) false
          have hbm : Below wT.heap.size wT (wT.alloc (.map #[] 0)) := (Below.refl _ _).alloc (Nat.le_refl _) _
          have CM0 := Lib.hid (hcT.below hbm)
          have HM0 := Lib.hid hMm
          have Hbm := Lib.hid hbm
          have Hll := Lib.hid hll
          have hmm := @run_makeMap Try.prog
          clear hcT hlen1 hll hnd hMm hbm
          go_wp2_with (go_at_call 18; refine (has_cached CM0.out Hll.out).mono ?_; rintro e wH ⟨v, rfl, hI, hb⟩; obtain ⟨Av, cv, hv, hvl, hvm⟩ := hI.len; obtain ⟨nH, hnH⟩ : ∃ nH, nH = (keysI L').reverse.length := ⟨_, rfl⟩; rw [← hnH] at hv; subst hv; have HI := Lib.hid hI; have HbH := Lib.hid (Hbm.out.trans (hb.mono Hbm.out.size)); have HMH := Lib.hid (HM0.out.keep (w' := wH) (hb.block _ HM0.out.lt)); have HnH := Lib.hid hnH; have hlb : wT.heap.size < wH.heap.size := Nat.lt_of_lt_of_le (by simp) hb.size; have hibase := Lib.hid (fun g (hg : (Value.slice Av nH cv).ownBlock = some g) => (HI.out.lt hg).2.1); clear hI hb hnH hvl hvm)
          obtain ⟨gm, hgm⟩ : ∃ gm, gm = wT.heap.size := ⟨_, rfl⟩
          have Hgm := Lib.hid hgm
          rw [← hgm] at HMH hlb ⊢
          have hib2 : Hid (∀ g, (Value.slice Av nH cv).ownBlock = some g → gm < g) := fun g hg => by have := hibase.out g hg; simp at this; omega
          have hnr : nH ≤ rm := by rw [HnH.out]; exact HKL.out
          have hrm9 : rm ≤ 9 := Hrl.out.2
          clear hgm hmm
          go_loopw [19, 133] (fun _ i wx => ∃ j2 : Nat, j2 ≤ nH ∧ i = .int .i64 (j2 : Int) ∧ MapIs (plainElem (H := Unit) Try.prog 4) (fun x : Bool => (.lit (.bool x) : DataW Unit)) false wx gm (fun s => decide (s ∈ (keysI L').reverse.take j2)) (fun s => decide (s ∈ (keysI L').reverse.take j2)) j2 ∧ Below wT.heap.size wT wx ∧ Ints wx 0 (.slice Av nH cv) (keysI L').reverse) (fun _ i _ => nH - (intOf i).toNat)
          case atStart => exact ⟨0, Nat.zero_le _, rfl, HMH.out.as (fun s => by simp) (fun s => by simp) rfl, HbH.out, HI.out.more (Nat.zero_le _)⟩
          case round =>
            obtain ⟨j2, hj2, rfl, hM, hbx, hIx⟩ := hrel
            have HM := Lib.hid hM
            have Hbx := Lib.hid hbx
            have HIx := Lib.hid hIx
            clear hM hbx hIx
            by_cases hlt2 : j2 < nH
            · have hjl : j2 < (keysI L').reverse.length := by rw [← HnH.out]; exact hlt2
              obtain ⟨gv, cv', hv, hcell, _⟩ := HIx.out.get hjl
              obtain rfl : Av = some ⟨gv, 0, none⟩ := by injection hv
              clear hv
              obtain ⟨z, hz⟩ : ∃ z, z = (keysI L').reverse[j2] := ⟨_, rfl⟩
              rw [← hz] at hcell
              have hzI : I64 z := by
                have hzm : z ∈ (keysI L').reverse := by rw [hz]; exact List.getElem_mem hjl
                rw [List.mem_reverse] at hzm
                obtain ⟨p, hp, rfl⟩ := List.mem_map.1 hzm
                exact I64_nat (Nat.le_trans (Nat.le_of_lt (CT.out.fine.key p hp)) CT.out.fine.n)
              have hzn : z ∉ (keysI L').reverse.take j2 := by
                rw [hz]
                intro hm
                obtain ⟨i2, hi2, he⟩ := List.getElem_of_mem hm
                rw [List.getElem_take] at he
                have := nodup_inj HND.out (i := i2) (j := j2) (by simp at hi2 ⊢; omega) hjl he
                simp at hi2
                omega
              have htk : (keysI L').reverse.take (j2 + 1) = (keysI L').reverse.take j2 ++ [z] := by rw [hz]; exact List.take_succ_eq_append_getElem hjl
              have hlk := (HM.out.look boolE Try.underlying46 hzI).1
              rw [decide_eq_false hzn] at hlk
              have HzI := Lib.hid hzI
              have Hzn := Lib.hid hzn
              have Htk := Lib.hid htk
              clear hz hzI hzn htk hjl
              go_wp2_with (at_mapUpdate; refine wpList_mput (β := Bool) (enc := Value.bool) rfl (.tmp 140) (.tmp 141) (.const (.bool true)) rfl boolE Try.underlying46 rfl HM.out (by unfold maxLen; omega) HzI.out rfl (x := true) trivial rfl ?_; intro wy hMy hGy; have HMy := Lib.hid hMy; have HGy := Lib.hid hGy; clear hMy hGy)
              go_roundw
              case rel =>
                refine ⟨j2 + 1, by omega, by go_num, ?_, Hbx.out.grown HGy.out Hbx.out.size (fun t ht => by cases ht; rw [Hgm.out]; exact Nat.le_refl _), HIx.out.keep fun g hg => HGy.out.block g (HIx.out.lt hg).1 fun e => by injection e with e; have := hib2.out g hg; omega⟩
                refine HMy.out.as (fun s => ?_) (fun s => ?_) ?_
                · rw [Htk.out]; by_cases hs : s = z <;> simp [hs]
                · rw [Htk.out]; by_cases hs : s = z <;> simp [hs]
                · rw [decide_eq_false Hzn.out]; simp
              case measure => simp [intOf]; omega
            · obtain rfl : j2 = nH := by omega
              have hlenf := HM.out.len Try.underlying46
              have hgt : ¬ ((rm : Int) < (j2 : Int)) := by omega
              go_wp2
              go_roundw
              case rel => exact ⟨j + 1, V, L', k', S', by omega, by go_num, OT.out.below Hbx.out, CT.out, BT.out.below Hbx.out BT.out.lt, NT.out, VT.out, LT.out.trans (Hbx.out.mono LT.out.size)⟩
              case measure => simp [intOf]; omega
        · have OT := O0
          have BT := BL0
          have LT := L0
          have CT : Hid (Coh 8 (j + 1) rm V (j + 1) L k) := C.out.up (Nat.le_succ _) (Nat.le_succ _)
          have NT : Hid (∀ t, S t → t ≠ gl) := NL.out
          have VT := HV
          clear O BL C NL HV LL L0 O0 BL0
          go_upto_region 30 with fail
          generalize (wr.alloc (.cells #[.int .u8 (kd : Int), .int .i64 (t : Int), .int .u8 (ac : Int), .slice bA bn bc] 35)) = wT at *
          have hTc := OT.out.cache
          obtain ⟨ScT, hcT⟩ := hTc
          have hlen1 := CT.out.room
          have hll : L.length ≤ 10000 := CT.out.fine.len
          have hnd := (keys_nodup CT.out.nod)
          have HND : Hid ((keysI L).reverse.Nodup) := List.pairwise_reverse.2 (hnd.imp fun h => Ne.symm h)
          have HKL : Hid ((keysI L).reverse.length ≤ rm) := by unfold Hid; simp [keysI]; exact hlen1
          have hMm := MapIs.made wT (plainElem (H := Unit) Try.prog 4) (fun x : Bool => (.lit (.bool x) : DataW Unit)) false
          have hbm : Below wT.heap.size wT (wT.alloc (.map #[] 0)) := (Below.refl _ _).alloc (Nat.le_refl _) _
          have CM0 := Lib.hid (hcT.below hbm)
          have HM0 := Lib.hid hMm
          have Hbm := Lib.hid hbm
          have Hll := Lib.hid hll
          have hmm := @run_makeMap Try.prog
          clear hcT hlen1 hll hnd hMm hbm
          go_wp2_with (go_at_call 18; refine (has_cached CM0.out Hll.out).mono ?_; rintro e wH ⟨v, rfl, hI, hb⟩; obtain ⟨Av, cv, hv, hvl, hvm⟩ := hI.len; obtain ⟨nH, hnH⟩ : ∃ nH, nH = (keysI L).reverse.length := ⟨_, rfl⟩; rw [← hnH] at hv; subst hv; have HI := Lib.hid hI; have HbH := Lib.hid (Hbm.out.trans (hb.mono Hbm.out.size)); have HMH := Lib.hid (HM0.out.keep (w' := wH) (hb.block _ HM0.out.lt)); have HnH := Lib.hid hnH; have hlb : wT.heap.size < wH.heap.size := Nat.lt_of_lt_of_le (by simp) hb.size; have hibase := Lib.hid (fun g (hg : (Value.slice Av nH cv).ownBlock = some g) => (HI.out.lt hg).2.1); clear hI hb hnH hvl hvm)
          obtain ⟨gm, hgm⟩ : ∃ gm, gm = wT.heap.size := ⟨_, rfl⟩
          have Hgm := Lib.hid hgm
          rw [← hgm] at HMH hlb ⊢
          have hib2 : Hid (∀ g, (Value.slice Av nH cv).ownBlock = some g → gm < g) := fun g hg => by have := hibase.out g hg; simp at this; omega
          have hnr : nH ≤ rm := by rw [HnH.out]; exact HKL.out
          have hrm9 : rm ≤ 9 := Hrl.out.2
          clear hgm hmm
          go_loopw [19, 133] (fun _ i wx => ∃ j2 : Nat, j2 ≤ nH ∧ i = .int .i64 (j2 : Int) ∧ MapIs (plainElem (H := Unit) Try.prog 4) (fun x : Bool => (.lit (.bool x) : DataW Unit)) false wx gm (fun s => decide (s ∈ (keysI L).reverse.take j2)) (fun s => decide (s ∈ (keysI L).reverse.take j2)) j2 ∧ Below wT.heap.size wT wx ∧ Ints wx 0 (.slice Av nH cv) (keysI L).reverse) (fun _ i _ => nH - (intOf i).toNat)
          case atStart => exact ⟨0, Nat.zero_le _, rfl, HMH.out.as (fun s => by simp) (fun s => by simp) rfl, HbH.out, HI.out.more (Nat.zero_le _)⟩
          case round =>
            obtain ⟨j2, hj2, rfl, hM, hbx, hIx⟩ := hrel
            have HM := Lib.hid hM
            have Hbx := Lib.hid hbx
            have HIx := Lib.hid hIx
            clear hM hbx hIx
            by_cases hlt2 : j2 < nH
            · have hjl : j2 < (keysI L).reverse.length := by rw [← HnH.out]; exact hlt2
              obtain ⟨gv, cv', hv, hcell, _⟩ := HIx.out.get hjl
              obtain rfl : Av = some ⟨gv, 0, none⟩ := by injection hv
              clear hv
              obtain ⟨z, hz⟩ : ∃ z, z = (keysI L).reverse[j2] := ⟨_, rfl⟩
              rw [← hz] at hcell
              have hzI : I64 z := by
                have hzm : z ∈ (keysI L).reverse := by rw [hz]; exact List.getElem_mem hjl
                rw [List.mem_reverse] at hzm
                obtain ⟨p, hp, rfl⟩ := List.mem_map.1 hzm
                exact I64_nat (Nat.le_trans (Nat.le_of_lt (CT.out.fine.key p hp)) CT.out.fine.n)
              have hzn : z ∉ (keysI L).reverse.take j2 := by
                rw [hz]
                intro hm
                obtain ⟨i2, hi2, he⟩ := List.getElem_of_mem hm
                rw [List.getElem_take] at he
                have := nodup_inj HND.out (i := i2) (j := j2) (by simp at hi2 ⊢; omega) hjl he
                simp at hi2
                omega
              have htk : (keysI L).reverse.take (j2 + 1) = (keysI L).reverse.take j2 ++ [z] := by rw [hz]; exact List.take_succ_eq_append_getElem hjl
              have hlk := (HM.out.look boolE Try.underlying46 hzI).1
              rw [decide_eq_false hzn] at hlk
              have HzI := Lib.hid hzI
              have Hzn := Lib.hid hzn
              have Htk := Lib.hid htk
              clear hz hzI hzn htk hjl
              go_wp2_with (at_mapUpdate; refine wpList_mput (β := Bool) (enc := Value.bool) rfl (.tmp 140) (.tmp 141) (.const (.bool true)) rfl boolE Try.underlying46 rfl HM.out (by unfold maxLen; omega) HzI.out rfl (x := true) trivial rfl ?_; intro wy hMy hGy; have HMy := Lib.hid hMy; have HGy := Lib.hid hGy; clear hMy hGy)
              go_roundw
              case rel =>
                refine ⟨j2 + 1, by omega, by go_num, ?_, Hbx.out.grown HGy.out Hbx.out.size (fun t ht => by cases ht; rw [Hgm.out]; exact Nat.le_refl _), HIx.out.keep fun g hg => HGy.out.block g (HIx.out.lt hg).1 fun e => by injection e with e; have := hib2.out g hg; omega⟩
                refine HMy.out.as (fun s => ?_) (fun s => ?_) ?_
                · rw [Htk.out]; by_cases hs : s = z <;> simp [hs]
                · rw [Htk.out]; by_cases hs : s = z <;> simp [hs]
                · rw [decide_eq_false Hzn.out]; simp
              case measure => simp [intOf]; omega
            · obtain rfl : j2 = nH := by omega
              have hlenf := HM.out.len Try.underlying46
              have hgt : ¬ ((rm : Int) < (j2 : Int)) := by omega
              go_wp2
              go_roundw
              case rel => exact ⟨j + 1, V, L, k, S, by omega, by go_num, OT.out.below Hbx.out, CT.out, BT.out.below Hbx.out BT.out.lt, NT.out, VT.out, LT.out.trans (Hbx.out.mono LT.out.size)⟩
              case measure => simp [intOf]; omega
        · have OT := O0
          have BT := BL0
          have LT := L0
          have CT : Hid (Coh 8 (j + 1) rm V (j + 1) L k) := C.out.up (Nat.le_succ _) (Nat.le_succ _)
          have NT : Hid (∀ t, S t → t ≠ gl) := NL.out
          have VT := HV
          clear O BL C NL HV LL L0 O0 BL0
          go_upto_region 30 with fail
          generalize (wr.alloc (.cells #[.int .u8 (kd : Int), .int .i64 (t : Int), .int .u8 (ac : Int), .slice bA bn bc] 35)) = wT at *
          have hTc := OT.out.cache
          obtain ⟨ScT, hcT⟩ := hTc
          have hlen1 := CT.out.room
          have hll : L.length ≤ 10000 := CT.out.fine.len
          have hnd := (keys_nodup CT.out.nod)
          have HND : Hid ((keysI L).reverse.Nodup) := List.pairwise_reverse.2 (hnd.imp fun h => Ne.symm h)
          have HKL : Hid ((keysI L).reverse.length ≤ rm) := by unfold Hid; simp [keysI]; exact hlen1
          have hMm := MapIs.made wT (plainElem (H := Unit) Try.prog 4) (fun x : Bool => (.lit (.bool x) : DataW Unit)) false
          have hbm : Below wT.heap.size wT (wT.alloc (.map #[] 0)) := (Below.refl _ _).alloc (Nat.le_refl _) _
          have CM0 := Lib.hid (hcT.below hbm)
          have HM0 := Lib.hid hMm
          have Hbm := Lib.hid hbm
          have Hll := Lib.hid hll
          have hmm := @run_makeMap Try.prog
          clear hcT hlen1 hll hnd hMm hbm
          go_wp2_with (go_at_call 18; refine (has_cached CM0.out Hll.out).mono ?_; rintro e wH ⟨v, rfl, hI, hb⟩; obtain ⟨Av, cv, hv, hvl, hvm⟩ := hI.len; obtain ⟨nH, hnH⟩ : ∃ nH, nH = (keysI L).reverse.length := ⟨_, rfl⟩; rw [← hnH] at hv; subst hv; have HI := Lib.hid hI; have HbH := Lib.hid (Hbm.out.trans (hb.mono Hbm.out.size)); have HMH := Lib.hid (HM0.out.keep (w' := wH) (hb.block _ HM0.out.lt)); have HnH := Lib.hid hnH; have hlb : wT.heap.size < wH.heap.size := Nat.lt_of_lt_of_le (by simp) hb.size; have hibase := Lib.hid (fun g (hg : (Value.slice Av nH cv).ownBlock = some g) => (HI.out.lt hg).2.1); clear hI hb hnH hvl hvm)
          obtain ⟨gm, hgm⟩ : ∃ gm, gm = wT.heap.size := ⟨_, rfl⟩
          have Hgm := Lib.hid hgm
          rw [← hgm] at HMH hlb ⊢
          have hib2 : Hid (∀ g, (Value.slice Av nH cv).ownBlock = some g → gm < g) := fun g hg => by have := hibase.out g hg; simp at this; omega
          have hnr : nH ≤ rm := by rw [HnH.out]; exact HKL.out
          have hrm9 : rm ≤ 9 := Hrl.out.2
          clear hgm hmm
          go_loopw [19, 133] (fun _ i wx => ∃ j2 : Nat, j2 ≤ nH ∧ i = .int .i64 (j2 : Int) ∧ MapIs (plainElem (H := Unit) Try.prog 4) (fun x : Bool => (.lit (.bool x) : DataW Unit)) false wx gm (fun s => decide (s ∈ (keysI L).reverse.take j2)) (fun s => decide (s ∈ (keysI L).reverse.take j2)) j2 ∧ Below wT.heap.size wT wx ∧ Ints wx 0 (.slice Av nH cv) (keysI L).reverse) (fun _ i _ => nH - (intOf i).toNat)
          case atStart => exact ⟨0, Nat.zero_le _, rfl, HMH.out.as (fun s => by simp) (fun s => by simp) rfl, HbH.out, HI.out.more (Nat.zero_le _)⟩
          case round =>
            obtain ⟨j2, hj2, rfl, hM, hbx, hIx⟩ := hrel
            have HM := Lib.hid hM
            have Hbx := Lib.hid hbx
            have HIx := Lib.hid hIx
            clear hM hbx hIx
            by_cases hlt2 : j2 < nH
            · have hjl : j2 < (keysI L).reverse.length := by rw [← HnH.out]; exact hlt2
              obtain ⟨gv, cv', hv, hcell, _⟩ := HIx.out.get hjl
              obtain rfl : Av = some ⟨gv, 0, none⟩ := by injection hv
              clear hv
              obtain ⟨z, hz⟩ : ∃ z, z = (keysI L).reverse[j2] := ⟨_, rfl⟩
              rw [← hz] at hcell
              have hzI : I64 z := by
                have hzm : z ∈ (keysI L).reverse := by rw [hz]; exact List.getElem_mem hjl
                rw [List.mem_reverse] at hzm
                obtain ⟨p, hp, rfl⟩ := List.mem_map.1 hzm
                exact I64_nat (Nat.le_trans (Nat.le_of_lt (CT.out.fine.key p hp)) CT.out.fine.n)
              have hzn : z ∉ (keysI L).reverse.take j2 := by
                rw [hz]
                intro hm
                obtain ⟨i2, hi2, he⟩ := List.getElem_of_mem hm
                rw [List.getElem_take] at he
                have := nodup_inj HND.out (i := i2) (j := j2) (by simp at hi2 ⊢; omega) hjl he
                simp at hi2
                omega
              have htk : (keysI L).reverse.take (j2 + 1) = (keysI L).reverse.take j2 ++ [z] := by rw [hz]; exact List.take_succ_eq_append_getElem hjl
              have hlk := (HM.out.look boolE Try.underlying46 hzI).1
              rw [decide_eq_false hzn] at hlk
              have HzI := Lib.hid hzI
              have Hzn := Lib.hid hzn
              have Htk := Lib.hid htk
              clear hz hzI hzn htk hjl
              go_wp2_with (at_mapUpdate; refine wpList_mput (β := Bool) (enc := Value.bool) rfl (.tmp 140) (.tmp 141) (.const (.bool true)) rfl boolE Try.underlying46 rfl HM.out (by unfold maxLen; omega) HzI.out rfl (x := true) trivial rfl ?_; intro wy hMy hGy; have HMy := Lib.hid hMy; have HGy := Lib.hid hGy; clear hMy hGy)
              go_roundw
              case rel =>
                refine ⟨j2 + 1, by omega, by go_num, ?_, Hbx.out.grown HGy.out Hbx.out.size (fun t ht => by cases ht; rw [Hgm.out]; exact Nat.le_refl _), HIx.out.keep fun g hg => HGy.out.block g (HIx.out.lt hg).1 fun e => by injection e with e; have := hib2.out g hg; omega⟩
                refine HMy.out.as (fun s => ?_) (fun s => ?_) ?_
                · rw [Htk.out]; by_cases hs : s = z <;> simp [hs]
                · rw [Htk.out]; by_cases hs : s = z <;> simp [hs]
                · rw [decide_eq_false Hzn.out]; simp
              case measure => simp [intOf]; omega
            · obtain rfl : j2 = nH := by omega
              have hlenf := HM.out.len Try.underlying46
              have hgt : ¬ ((rm : Int) < (j2 : Int)) := by omega
              go_wp2
              go_roundw
              case rel => exact ⟨j + 1, V, L, k, S, by omega, by go_num, OT.out.below Hbx.out, CT.out, BT.out.below Hbx.out BT.out.lt, NT.out, VT.out, LT.out.trans (Hbx.out.mono LT.out.size)⟩
              case measure => simp [intOf]; omega
        · have OT := O0
          have BT := BL0
          have LT := L0
          have CT : Hid (Coh 8 (j + 1) rm V (j + 1) L k) := C.out.up (Nat.le_succ _) (Nat.le_succ _)
          have NT : Hid (∀ t, S t → t ≠ gl) := NL.out
          have VT := HV
          clear O BL C NL HV LL L0 O0 BL0
          go_upto_region 30 with fail
          generalize (wr.alloc (.cells #[.int .u8 (kd : Int), .int .i64 (t : Int), .int .u8 (ac : Int), .slice bA bn bc] 35)) = wT at *
          have hTc := OT.out.cache
          obtain ⟨ScT, hcT⟩ := hTc
          have hlen1 := CT.out.room
          have hll : L.length ≤ 10000 := CT.out.fine.len
          have hnd := (keys_nodup CT.out.nod)
          have HND : Hid ((keysI L).reverse.Nodup) := List.pairwise_reverse.2 (hnd.imp fun h => Ne.symm h)
          have HKL : Hid ((keysI L).reverse.length ≤ rm) := by unfold Hid; simp [keysI]; exact hlen1
          have hMm := MapIs.made wT (plainElem (H := Unit) Try.prog 4) (fun x : Bool => (.lit (.bool x) : DataW Unit)) false
          have hbm : Below wT.heap.size wT (wT.alloc (.map #[] 0)) := (Below.refl _ _).alloc (Nat.le_refl _) _
          have CM0 := Lib.hid (hcT.below hbm)
          have HM0 := Lib.hid hMm
          have Hbm := Lib.hid hbm
          have Hll := Lib.hid hll
          have hmm := @run_makeMap Try.prog
          clear hcT hlen1 hll hnd hMm hbm
          go_wp2_with (go_at_call 18; refine (has_cached CM0.out Hll.out).mono ?_; rintro e wH ⟨v, rfl, hI, hb⟩; obtain ⟨Av, cv, hv, hvl, hvm⟩ := hI.len; obtain ⟨nH, hnH⟩ : ∃ nH, nH = (keysI L).reverse.length := ⟨_, rfl⟩; rw [← hnH] at hv; subst hv; have HI := Lib.hid hI; have HbH := Lib.hid (Hbm.out.trans (hb.mono Hbm.out.size)); have HMH := Lib.hid (HM0.out.keep (w' := wH) (hb.block _ HM0.out.lt)); have HnH := Lib.hid hnH; have hlb : wT.heap.size < wH.heap.size := Nat.lt_of_lt_of_le (by simp) hb.size; have hibase := Lib.hid (fun g (hg : (Value.slice Av nH cv).ownBlock = some g) => (HI.out.lt hg).2.1); clear hI hb hnH hvl hvm)
          obtain ⟨gm, hgm⟩ : ∃ gm, gm = wT.heap.size := ⟨_, rfl⟩
          have Hgm := Lib.hid hgm
          rw [← hgm] at HMH hlb ⊢
          have hib2 : Hid (∀ g, (Value.slice Av nH cv).ownBlock = some g → gm < g) := fun g hg => by have := hibase.out g hg; simp at this; omega
          have hnr : nH ≤ rm := by rw [HnH.out]; exact HKL.out
          have hrm9 : rm ≤ 9 := Hrl.out.2
          clear hgm hmm
          go_loopw [19, 133] (fun _ i wx => ∃ j2 : Nat, j2 ≤ nH ∧ i = .int .i64 (j2 : Int) ∧ MapIs (plainElem (H := Unit) Try.prog 4) (fun x : Bool => (.lit (.bool x) : DataW Unit)) false wx gm (fun s => decide (s ∈ (keysI L).reverse.take j2)) (fun s => decide (s ∈ (keysI L).reverse.take j2)) j2 ∧ Below wT.heap.size wT wx ∧ Ints wx 0 (.slice Av nH cv) (keysI L).reverse) (fun _ i _ => nH - (intOf i).toNat)
          case atStart => exact ⟨0, Nat.zero_le _, rfl, HMH.out.as (fun s => by simp) (fun s => by simp) rfl, HbH.out, HI.out.more (Nat.zero_le _)⟩
          case round =>
            obtain ⟨j2, hj2, rfl, hM, hbx, hIx⟩ := hrel
            have HM := Lib.hid hM
            have Hbx := Lib.hid hbx
            have HIx := Lib.hid hIx
            clear hM hbx hIx
            by_cases hlt2 : j2 < nH
            · have hjl : j2 < (keysI L).reverse.length := by rw [← HnH.out]; exact hlt2
              obtain ⟨gv, cv', hv, hcell, _⟩ := HIx.out.get hjl
              obtain rfl : Av = some ⟨gv, 0, none⟩ := by injection hv
              clear hv
              obtain ⟨z, hz⟩ : ∃ z, z = (keysI L).reverse[j2] := ⟨_, rfl⟩
              rw [← hz] at hcell
              have hzI : I64 z := by
                have hzm : z ∈ (keysI L).reverse := by rw [hz]; exact List.getElem_mem hjl
                rw [List.mem_reverse] at hzm
                obtain ⟨p, hp, rfl⟩ := List.mem_map.1 hzm
                exact I64_nat (Nat.le_trans (Nat.le_of_lt (CT.out.fine.key p hp)) CT.out.fine.n)
              have hzn : z ∉ (keysI L).reverse.take j2 := by
                rw [hz]
                intro hm
                obtain ⟨i2, hi2, he⟩ := List.getElem_of_mem hm
                rw [List.getElem_take] at he
                have := nodup_inj HND.out (i := i2) (j := j2) (by simp at hi2 ⊢; omega) hjl he
                simp at hi2
                omega
              have htk : (keysI L).reverse.take (j2 + 1) = (keysI L).reverse.take j2 ++ [z] := by rw [hz]; exact List.take_succ_eq_append_getElem hjl
              have hlk := (HM.out.look boolE Try.underlying46 hzI).1
              rw [decide_eq_false hzn] at hlk
              have HzI := Lib.hid hzI
              have Hzn := Lib.hid hzn
              have Htk := Lib.hid htk
              clear hz hzI hzn htk hjl
              go_wp2_with (at_mapUpdate; refine wpList_mput (β := Bool) (enc := Value.bool) rfl (.tmp 140) (.tmp 141) (.const (.bool true)) rfl boolE Try.underlying46 rfl HM.out (by unfold maxLen; omega) HzI.out rfl (x := true) trivial rfl ?_; intro wy hMy hGy; have HMy := Lib.hid hMy; have HGy := Lib.hid hGy; clear hMy hGy)
              go_roundw
              case rel =>
                refine ⟨j2 + 1, by omega, by go_num, ?_, Hbx.out.grown HGy.out Hbx.out.size (fun t ht => by cases ht; rw [Hgm.out]; exact Nat.le_refl _), HIx.out.keep fun g hg => HGy.out.block g (HIx.out.lt hg).1 fun e => by injection e with e; have := hib2.out g hg; omega⟩
                refine HMy.out.as (fun s => ?_) (fun s => ?_) ?_
                · rw [Htk.out]; by_cases hs : s = z <;> simp [hs]
                · rw [Htk.out]; by_cases hs : s = z <;> simp [hs]
                · rw [decide_eq_false Hzn.out]; simp
              case measure => simp [intOf]; omega
            · obtain rfl : j2 = nH := by omega
              have hlenf := HM.out.len Try.underlying46
              have hgt : ¬ ((rm : Int) < (j2 : Int)) := by omega
              go_wp2
              go_roundw
              case rel => exact ⟨j + 1, V, L, k, S, by omega, by go_num, OT.out.below Hbx.out, CT.out, BT.out.below Hbx.out BT.out.lt, NT.out, VT.out, LT.out.trans (Hbx.out.mono LT.out.size)⟩
              case measure => simp [intOf]; omega
      · have CT : Hid (Coh 8 (j + 1) rm V (j + 1) L k) := C.out.up (Nat.le_succ _) (Nat.le_succ _)
        have hcont : at_ < 0 ∨ ((¬ at_ < 0) ∧ 7 < at_) := by omega
        clear hin
        rcases hcont with h0 | ⟨h0, h1⟩
        · go_wp2
          go_roundw
          case rel => exact ⟨j + 1, V, L, k, S, by omega, by go_num, O0.out, CT.out, BL0.out, NL.out, HV.out, L0.out⟩
          case measure => simp [intOf]; omega
        · go_wp2
          go_roundw
          case rel => exact ⟨j + 1, V, L, k, S, by omega, by go_num, O0.out, CT.out, BL0.out, NL.out, HV.out, L0.out⟩
          case measure => simp [intOf]; omega
    · obtain rfl : j = q := by omega
      go_wp2
      go_ret
      exact ⟨rfl, LL.out⟩

theorem last_int (x : Int) (hx : 0 ≤ x) (hx2 : x < 256) (l : List Act) (A : Option Addr) (n c : Nat) (w : World) (hn : l.length = n) (hc : n ≤ c) (hm : c ≤ 9223372036854775807) (ha : Acts w w.heap.size A l) :
    Calls Try.prog 3 #[.int .u8 x, .slice A n c] w fun e w' => e = .returned (.bool true) ∧ Below w.heap.size w w' := by
  obtain ⟨r, rfl⟩ : ∃ r : Nat, x = (r : Int) := ⟨x.toNat, by omega⟩
  exact last_walk r (by omega) l A n c w hn hc hm ha

theorem last_contract (H : Type) (enc : TypeId × Value → H) (W : World) (base : Nat) (args : Array Value) (ds gs : List (DataW H)) (before : List MemPlace)
    (hval : ∀ (j : Nat) t v, Try.f3.params[j]? = some t → args[j]? = some v → Value.okWide Try.prog W .any base t v)
    (hW : DataW.Whole enc Try.prog Try.f3.params.toList Rows.cacheLastSpec.vars false W args.toList ds gs before) :
    Calls Try.prog 3 args W fun e W' => ∃ v, e = .returned v ∧ Rows.cacheLastSpec.post enc Try.prog Try.f3 false true false false W args v W' := by
  have hW' := hW
  have hlt : ∀ x ∈ before, x.block < W.heap.size := fun x hx => hW.lt x hx
  obtain ⟨p, q, hA0, hV, rfl, _, _⟩ := hW
  have hA : DataW.TrodAll enc Try.prog W 0 (fun _ => true) true Try.f3.params.toList args.toList ds p := hA0
  rw [Try.params3] at hA hval
  obtain ⟨v0, vs0, d0, ds0, p0, q0, hargs, rfl, rfl, h0, r0⟩ := trodAll_cons hA
  obtain ⟨v1, vs1, d1, ds1, p1, q1, rfl, rfl, rfl, h1, r1⟩ := trodAll_cons r0
  obtain ⟨rfl, rfl, rfl⟩ := trodAll_nil r1
  obtain rfl : args = #[v0, v1] := by cases args; simp_all
  obtain ⟨rfl, rfl⟩ := trodVars_none hV
  clear hA0
  obtain ⟨a0, rfl, rfl, rfl, wa0⟩ := open_int Try.underlying5 (hval 0 5 v0 rfl rfl) h0
  have bd0 := bounds_u8 wa0
  obtain ⟨A1, n1, c1, l1, rfl, hn1, hc1, hm1, hr1⟩ := open_actsL (hval 1 22 v1 rfl rfl) h1 (fun x hx => hlt x (by simp [hx]))
  unfold maxLen at hm1
  refine (last_int a0 (by omega) (by omega) l1 A1 n1 c1 W hn1 hc1 (by omega) hr1).mono fun e W' ⟨he, hb⟩ => ?_
  subst he
  exact ⟨_, rfl, law_post laid (by kernel_rfl) Try.underlying4 (by rw [Try.params3]; decide +kernel) rfl hW' ⟨rfl, rfl, rfl⟩ hb⟩

set_option maxRecDepth 100000 in
theorem last_lifted (os : Os) (started : os.Started) (H : Type) (enc : TypeId × Value → H) :
    ReturnsInHanded {} Try.checked os 3 .any (Rows.cacheLastSpec.pre6 enc Try.prog Try.f3 Rows.cacheLastRow.domain false) (Rows.cacheLastSpec.post enc Try.prog Try.f3 false true false false) := by
  refine returnsInHanded_of_change (C := Try.checked) own started (by kernel_rfl) Try.func3
    (ChangeSpec.witness6 (enc := enc) (C := Try.checked) false ⟨#[], #[.int .u8 0, .slice none 0 0], []⟩ 8 (by kernel_rfl) (by kernel_rfl) (by kernel_rfl) (by kernel_rfl)) ?_
  intro W base args ds gs before hval hW _ _
  exact last_contract H enc W base args ds gs before hval hW

/-- CacheLast is true for every input. -/
theorem last_holds : Rows.CacheLastSaid :=
  OpenClaim.holds_of_wide 3 Try.f3 rfl rfl rfl rfl rfl rfl rfl ⟨rfl, rfl, rfl, rfl, rfl⟩ rfl rfl rfl rfl rfl (by kernel_rfl) Try.func3 (by kernel_rfl)
    (of_decide_eq_true (by kernel_rfl)) (by unfold Func.isWrapper; first | (rw [if_pos (by decide +kernel)]; kernel_rfl) | (rw [if_neg (by decide +kernel)]; exact ⟨rfl, rfl⟩))
    (fun os started H enc _ => last_lifted os started H enc)
end Go.Proofs.Ytnmfpgeojggjbaa
