/-
  Statement CacheClean: a flush leaves nothing dirty that is not pinned, all that was put is on the disk then, safe, and another one writes nothing. No condition.
-/
import Derived.Test.YtnmfpgeojggjbaaO
import Derived.Test.YtnmfpgeojggjbaaQ
namespace Go.Proofs.Ytnmfpgeojggjbaa
open Go.RowKit Go.ChangeShapes Go.WideShapes Go.ChangeAt
attribute [local go_sem ↓] Go.wp_at_zero Go.wp_at_succ

/-- The bytes that were put last. -/
def lastV (V : Nat → Nat) : List Value := (List.range 8).map fun s => .int .u8 (V s : Int)
theorem lastV_get (V : Nat → Nat) {s : Nat} (h : s < 8) : (lastV V)[s]? = some (.int .u8 (V s : Int)) := by simp [lastV, h]
theorem lastV_set (V : Nat → Nat) (t c : Nat) : (lastV V).set t (.int .u8 (c : Int)) = lastV (fun s => if s = t then c else V s) := by
  apply List.ext_getElem?
  intro i
  rw [List.getElem?_set]
  by_cases hi : i < 8
  · rw [lastV_get _ hi]
    split
    · rename_i h; subst h; simp [lastV, hi]
    · rename_i h; rw [lastV_get _ hi, if_neg (Ne.symm h)]
  · split
    · rename_i h; subst h; rw [if_neg (by simp [lastV]; omega), List.getElem?_eq_none (by simp [lastV]; omega)]
    · rw [List.getElem?_eq_none (by simp [lastV]; omega), List.getElem?_eq_none (by simp [lastV]; omega)]
theorem lastV_zero : lastV (fun _ => 0) = List.replicate 8 (.int .u8 0) := by rfl
theorem coh_start (n room : Nat) (hn : n ≤ 4096) : Coh n 0 room (fun _ => 0) 0 [] (Dk.fresh n 0) :=
  ⟨⟨by simp, by simp, by simp [Dk.fresh, hn], rfl, rfl, Nat.le_refl _, by simp⟩, by simp [Dk.fresh], by simp, by simp, fun s hs _ => by simp [Dk.now, Dk.fresh, puts, hs], by simp, by simp⟩

set_option maxRecDepth 100000 in
set_option maxHeartbeats 6400000 in
theorem clean_walk (r : Nat) (hr : r < 256) (l : List Act) (A : Option Addr) (n c : Nat) (w : World) (hn : l.length = n) (hc : n ≤ c) (hm : c ≤ 9223372036854775807) (ha : Acts w w.heap.size A l) :
    Calls Try.prog 5 #[.int .u8 (r : Int), .slice A n c] w fun e w' => e = .returned (.bool true) ∧ Below w.heap.size w w' := by
  obtain ⟨m, hm9⟩ : ∃ m, m = r % 9 := ⟨_, rfl⟩
  have h9 : (r : Int) % 9 = (m : Int) := by omega
  obtain ⟨rm, hrm⟩ : ∃ rm, rm = m + 1 := ⟨_, rfl⟩
  have hrmi : (m : Int) + 1 = (rm : Int) := by omega
  have hml : m < 9 := by omega
  have hrl : 1 ≤ rm ∧ rm ≤ 9 := by omega
  have HA := Lib.hid ha
  have Hn := Lib.hid hn
  have Hrl := Lib.hid hrl
  clear ha hn hrl hrm hm9
  go_enter Try.func5, Try.ntmps5
  go_wp2_with fail
  refine (shown_any _).mono ?_
  rintro e w1 ⟨rfl, hb⟩
  have L1 := Lib.hid hb
  clear hb
  go_wp2_with fail
  refine (new_any (f := sec) _ 8 (by decide) 0 sec_zero).mono ?_
  rintro e w2 ⟨bd, Sd, rfl, hb, hD, hS⟩
  have D2 := Lib.hid hD
  have HS2 := Lib.hid fun i (hi : Sd i) => Nat.le_trans L1.out.size (hS i hi)
  have L2 := Lib.hid (L1.out.trans (hb.mono L1.out.size))
  clear hb hD hS L1
  go_wp2_with fail
  refine (cnew_any _ bd rm Hrl.out.1 (Nat.le_trans Hrl.out.2 (by decide))).mono ?_
  rintro e w3 ⟨b, Sc, rfl, hb, hC, hS⟩
  have O3 : Hid (Ours w.heap.size w3 b bd rm [] (Dk.fresh 8 0) (fun i => Sc i ∨ Sd i)) := Ours.start D2.out HS2.out hb L2.out.size hC hS
  have L3 := Lib.hid (L2.out.trans (hb.mono L2.out.size))
  clear hb hC hS D2 HS2 L2
  go_wp2_with fail
  have hB4 : Bk (w3.alloc (.cells #[.int .u8 0, .int .u8 0, .int .u8 0, .int .u8 0, .int .u8 0, .int .u8 0, .int .u8 0, .int .u8 0] 31)) w3.heap.size 31 (lastV fun _ => 0) := Bk.new w3 31 (lastV fun _ => 0)
  have hb4 : Below w3.heap.size w3 (w3.alloc (.cells #[.int .u8 0, .int .u8 0, .int .u8 0, .int .u8 0, .int .u8 0, .int .u8 0, .int .u8 0, .int .u8 0] 31)) := (Below.refl _ w3).alloc (Nat.le_refl _) _
  have O4 := Lib.hid (O3.out.below hb4)
  have L4 := Lib.hid (L3.out.trans (hb4.mono L3.out.size))
  have N4 : Hid (∀ t, (Sc t ∨ Sd t) → t ≠ w3.heap.size) := fun t ht e => by have := O3.out.1.lt ht; omega
  have G4 : Hid (w.heap.size ≤ w3.heap.size) := L3.out.size
  have B4 := Lib.hid hB4
  clear hB4 hb4 O3 L3
  obtain ⟨gl, hgl⟩ : ∃ gl, gl = w3.heap.size := ⟨_, rfl⟩
  rw [← hgl] at B4 N4 G4 ⊢
  generalize w3.alloc (.cells #[.int .u8 0, .int .u8 0, .int .u8 0, .int .u8 0, .int .u8 0, .int .u8 0, .int .u8 0, .int .u8 0] 31) = w4 at *
  clear hgl
  have HA4 : Hid (Acts w4 w4.heap.size A l) := by
    have h1 := HA.out.below L4.out
    rcases h1 with h1 | ⟨b', o, h1, h2, h3⟩
    · exact .inl h1
    · exact .inr ⟨b', o, h1, Nat.lt_of_lt_of_le h2 L4.out.size, h3⟩
  refine (few_any l A n c w4 Hn.out hc hm HA4.out).mono ?_
  rintro e w4' ⟨q, rfl, hq, hq2, rfl⟩
  go_wp2
  go_loopw [40] (fun i wr => ∃ (j : Nat) (V : Nat → Nat) (L : List (Nat × Sl)) (k : Dk Nat) (S : Nat → Prop), j ≤ q ∧ i = .int .i64 (j : Int) ∧ Ours w.heap.size wr b bd rm L k S ∧ Coh 8 0 rm V j L k ∧ Bk wr gl 31 (lastV V) ∧ (∀ t, S t → t ≠ gl) ∧ (∀ s, V s < 256) ∧ Below w.heap.size w wr) (fun i _ => q - (intOf i).toNat)
  case atStart => exact ⟨0, fun _ => 0, [], Dk.fresh 8 0, _, Nat.zero_le _, rfl, O4.out, coh_start 8 rm (by decide), B4.out, N4.out, fun _ => by simp, L4.out⟩
  case round =>
    clear O4 B4 N4 L4 HA4
    obtain ⟨j, V, L, k, S, hj, rfl, hO, hC, hB, hN, hV, hL⟩ := hrel
    have O := Lib.hid hO
    have C := Lib.hid hC
    have BL := Lib.hid hB
    have NL := Lib.hid hN
    have HV := Lib.hid hV
    have LL := Lib.hid hL
    clear hO hC hB hN hV hL
    by_cases hlt : j < q
    · obtain ⟨ba, oa, a, rfl, hba, hal, hag, c0, c1, c2, c3⟩ := (HA.out.below LL.out).at (i := j) (by rw [Hn.out]; omega)
      have hk8 := hag.kind
      have hai := hag.at_
      have hac := hag.c
      obtain ⟨kd, hkd⟩ : ∃ kd, kd = a.kind := ⟨_, rfl⟩
      obtain ⟨ac, hacc⟩ : ∃ ac, ac = a.c := ⟨_, rfl⟩
      obtain ⟨at_, hat⟩ : ∃ at_, at_ = a.at_ := ⟨_, rfl⟩
      rw [← hkd] at c0 hk8
      rw [← hacc] at c2 hac
      rw [← hat] at c1 hai
      have HI := Lib.hid hai
      obtain ⟨bA, hbA⟩ : ∃ bA, bA = a.bA := ⟨_, rfl⟩
      obtain ⟨bn, hbn⟩ : ∃ bn, bn = a.bn := ⟨_, rfl⟩
      obtain ⟨bc, hbc⟩ : ∃ bc, bc = a.bc := ⟨_, rfl⟩
      rw [← hbA, ← hbn, ← hbc] at c3
      clear hkd hacc hat hbA hbn hbc hal hag hba hai
      have hBa := Bk.new wr 35 [.int .u8 (kd : Int), .int .i64 at_, .int .u8 (ac : Int), .slice bA bn bc]
      have hb0 : Below wr.heap.size wr (wr.alloc (.cells #[.int .u8 (kd : Int), .int .i64 at_, .int .u8 (ac : Int), .slice bA bn bc] 35)) := (Below.refl _ wr).alloc (Nat.le_refl _) _
      have O0 := Lib.hid (O.out.below hb0)
      have BL0 := Lib.hid (BL.out.below hb0 BL.out.lt)
      have NA0 : Hid (¬ S wr.heap.size) := O.out.new (Nat.le_refl _)
      have BA0 := Lib.hid hBa
      have L0 := Lib.hid (LL.out.trans (hb0.mono LL.out.size))
      have GA : Hid (w.heap.size ≤ wr.heap.size) := LL.out.size
      have HJ : Hid (j + 1 ≤ 200) := by unfold Hid; omega
      clear hBa hb0
      have hkk : (kd : Int) % 8 = 0 ∨ (kd : Int) % 8 = 1 ∨ (kd : Int) % 8 = 2 ∨ (kd : Int) % 8 = 3 ∨ (kd : Int) % 8 = 4 ∨ (kd : Int) % 8 = 5 ∨ (kd : Int) % 8 = 6 ∨ (kd : Int) % 8 = 7 := by omega
      rcases hkk with hk | hk | hk | hk | hk | hk | hk | hk
      · go_wp2_with fail
        refine (get_all O0.out L0.out.size C.out.fine (by have := HJ.out; omega) at_).mono ?_
        rintro e wT ⟨v, err, L', k', S', rfl, hR, hO, hst, hv⟩
        have CT : Hid (Coh 8 0 rm V (j + 1) L' k') := (coh_get C.out Hrl.out.1 (Nat.le_trans Hrl.out.2 (by decide)) hR).1
        have OT := Lib.hid hO
        have BT : Hid (Bk wT gl 31 (lastV V)) := hst.bk BL0.out fun h => NL.out gl h rfl
        have NT : Hid (∀ t, S' t → t ≠ gl) := fun u hu e => hst.not BL0.out.lt (fun h => NL.out gl h rfl) (e ▸ hu)
        have LT := Lib.hid (L0.out.trans (hst.below O0.out.2 L0.out.size))
        have VT := HV
        clear hv O BL C NL HV LL L0 O0 BL0 hR hO hst
        go_wp2
        go_roundw
        case rel => exact ⟨j + 1, V, L', k', S', by omega, by go_num, OT.out, CT.out, BT.out, NT.out, VT.out, LT.out⟩
        case measure => simp [intOf]; omega
      · go_wp2_with fail
        refine (patch_any at_ ac hac _).mono ?_
        rintro e w5 ⟨g5, rfl, hg5, hB5, hb5⟩
        have O1 := Lib.hid (O0.out.below hb5)
        have BL1 := Lib.hid (BL0.out.below hb5 BL0.out.lt)
        have BA1 := Lib.hid (BA0.out.below hb5 BA0.out.lt)
        have L1 := Lib.hid (L0.out.trans (hb5.mono L0.out.size))
        have N5 : Hid (¬ S g5) := O0.out.new hg5
        have B5 := Lib.hid hB5
        clear hg5 hB5 hb5 O BL LL L0 O0 BL0 BA0
        go_wp2_with fail
        refine (cput_all O1.out L1.out.size C.out.fine (by have := HJ.out; omega) at_ B5.out N5.out).mono ?_
        rintro e w6 ⟨err, L', k', S', rfl, hR, hO, hst⟩
        have O6 := Lib.hid hO
        have BL6 := Lib.hid (hst.bk BL1.out fun h => NL.out gl h rfl)
        have BA6 := Lib.hid (hst.bk BA1.out NA0.out)
        have N6 : Hid (∀ t, S' t → t ≠ gl) := fun u hu e => hst.not BL1.out.lt (fun h => NL.out gl h rfl) (e ▸ hu)
        have L6 := Lib.hid (L1.out.trans (hst.below O1.out.2 L1.out.size))
        have hcp := coh_put C.out Hrl.out.1 (Nat.le_trans Hrl.out.2 (by decide)) hR
        clear hO hst O1 BL1 BA1 L1 N5 B5 hR
        rcases hcp with ⟨rfl, t', ht', ht8, hC'⟩ | ⟨herr, hC'⟩
        · subst ht'
          have CT := Lib.hid hC'
          have a1 : w6.cell? ⟨wr.heap.size, 1, none⟩ = some (.int .i64 (t' : Int)) := BA6.out.cell 1
          have a2 : w6.cell? ⟨wr.heap.size, 2, none⟩ = some (.int .u8 (ac : Int)) := BA6.out.cell 2
          have l1 : w6.cell? ⟨gl, t', none⟩ = some (.int .u8 (V t' : Int)) := (BL6.out.cell t').trans (lastV_get V ht8)
          have f1 := BL6.out.frozen t'
          have hn0 : ¬ ((t' : Int) < 0) := by omega
          have hn7 : ¬ ((7 : Int) < (t' : Int)) := by omega
          have hB7 := BL6.out.set t' (.int .u8 (ac : Int))
          rw [lastV_set] at hB7
          have BT := Lib.hid hB7
          have OT : Hid (Ours w.heap.size (w6.setCell ⟨gl, t', none⟩ (.int .u8 (ac : Int))) b bd rm L' k' S') := ⟨O6.out.1.keep fun i hi => Below.heap_setCell w6 ⟨gl, t', none⟩ _ i (N6.out i hi), O6.out.2⟩
          have NT := N6
          have LT := Lib.hid (L6.out.setCell (p := ⟨gl, t', none⟩) G4.out (.int .u8 (ac : Int)))
          have VT : Hid (∀ s, (fun s => if s = t' then ac else V s) s < 256) := fun s => by
            simp only
            split
            · exact hac
            · exact HV.out s
          clear C NL HV hB7 hC' O6 BL6 BA6 N6 L6
          go_wp2
          go_roundw
          case rel => exact ⟨j + 1, (fun s => if s = t' then ac else V s), L', k', S', by omega, by go_num, OT.out, CT.out, BT.out, NT.out, VT.out, LT.out⟩
          case measure => simp [intOf]; omega
        · have CT := Lib.hid hC'
          have OT := O6
          have BT := BL6
          have NT := N6
          have LT := L6
          have VT := HV
          clear C NL HV hC' O6 BL6 BA6 N6 L6
          rcases herr with rfl | rfl
          · go_wp2
            go_roundw
            case rel => exact ⟨j + 1, V, L', k', S', by omega, by go_num, OT.out, CT.out, BT.out, NT.out, VT.out, LT.out⟩
            case measure => simp [intOf]; omega
          · go_wp2
            go_roundw
            case rel => exact ⟨j + 1, V, L', k', S', by omega, by go_num, OT.out, CT.out, BT.out, NT.out, VT.out, LT.out⟩
            case measure => simp [intOf]; omega
      · have OT := O0
        have BT := BL0
        have LT := L0
        have CT : Hid (Coh 8 0 rm V (j + 1) L k) := C.out.up (Nat.le_succ _) (Nat.le_refl _)
        have NT : Hid (∀ t, S t → t ≠ gl) := NL.out
        have VT := HV
        clear O BL C NL HV LL L0 O0 BL0
        go_wp2
        go_roundw
        case rel => exact ⟨j + 1, V, L, k, S, by omega, by go_num, OT.out, CT.out, BT.out, NT.out, VT.out, LT.out⟩
        case measure => simp [intOf]; omega
      · have OT := O0
        have BT := BL0
        have LT := L0
        have CT : Hid (Coh 8 0 rm V (j + 1) L k) := C.out.up (Nat.le_succ _) (Nat.le_refl _)
        have NT : Hid (∀ t, S t → t ≠ gl) := NL.out
        have VT := HV
        clear O BL C NL HV LL L0 O0 BL0
        go_wp2
        go_roundw
        case rel => exact ⟨j + 1, V, L, k, S, by omega, by go_num, OT.out, CT.out, BT.out, NT.out, VT.out, LT.out⟩
        case measure => simp [intOf]; omega
      · have OT := O0
        have BT := BL0
        have LT := L0
        have CT : Hid (Coh 8 0 rm V (j + 1) L k) := C.out.up (Nat.le_succ _) (Nat.le_refl _)
        have NT : Hid (∀ t, S t → t ≠ gl) := NL.out
        have VT := HV
        clear O BL C NL HV LL L0 O0 BL0
        go_wp2
        go_roundw
        case rel => exact ⟨j + 1, V, L, k, S, by omega, by go_num, OT.out, CT.out, BT.out, NT.out, VT.out, LT.out⟩
        case measure => simp [intOf]; omega
      · have OT := O0
        have BT := BL0
        have LT := L0
        have CT : Hid (Coh 8 0 rm V (j + 1) L k) := C.out.up (Nat.le_succ _) (Nat.le_refl _)
        have NT : Hid (∀ t, S t → t ≠ gl) := NL.out
        have VT := HV
        clear O BL C NL HV LL L0 O0 BL0
        go_wp2
        go_roundw
        case rel => exact ⟨j + 1, V, L, k, S, by omega, by go_num, OT.out, CT.out, BT.out, NT.out, VT.out, LT.out⟩
        case measure => simp [intOf]; omega
      · have OT := O0
        have BT := BL0
        have LT := L0
        have CT : Hid (Coh 8 0 rm V (j + 1) L k) := C.out.up (Nat.le_succ _) (Nat.le_refl _)
        have NT : Hid (∀ t, S t → t ≠ gl) := NL.out
        have VT := HV
        clear O BL C NL HV LL L0 O0 BL0
        go_wp2
        go_roundw
        case rel => exact ⟨j + 1, V, L, k, S, by omega, by go_num, OT.out, CT.out, BT.out, NT.out, VT.out, LT.out⟩
        case measure => simp [intOf]; omega
      · have OT := O0
        have BT := BL0
        have LT := L0
        have CT : Hid (Coh 8 0 rm V (j + 1) L k) := C.out.up (Nat.le_succ _) (Nat.le_refl _)
        have NT : Hid (∀ t, S t → t ≠ gl) := NL.out
        have VT := HV
        clear O BL C NL HV LL L0 O0 BL0
        go_wp2
        go_roundw
        case rel => exact ⟨j + 1, V, L, k, S, by omega, by go_num, OT.out, CT.out, BT.out, NT.out, VT.out, LT.out⟩
        case measure => simp [intOf]; omega
    · obtain rfl : j = q := by omega
      have hj120 : j ≤ 120 := by omega
      go_wp2_with fail
      refine (flush_all O.out LL.out.size C.out.fine (by omega) (fun p hp => Nat.le_trans (C.out.pins p hp) (by decide))).mono ?_
      rintro e w5 ⟨l1, L1, k1, S1, rfl, hR1, hO1, hst1⟩
      obtain ⟨hC1, hK1, hcl1, hun1, _⟩ := coh_flush C.out hR1
      have hcl : ∀ p ∈ L1, p.2.dirty = false := fun p hp => hcl1 p hp (Nat.le_zero.1 (hC1.pins p hp))
      have O5 := Lib.hid hO1
      have C5 := Lib.hid hC1
      have CL5 := Lib.hid hcl
      have BL5 := Lib.hid (hst1.bk BL.out fun h => NL.out gl h rfl)
      have N5 : Hid (∀ t, S1 t → t ≠ gl) := fun u hu e => hst1.not BL.out.lt (fun h => NL.out gl h rfl) (e ▸ hu)
      have L5 := Lib.hid (LL.out.trans (hst1.below O.out.2 LL.out.size))
      clear hR1 hO1 hst1 hC1 hK1 hcl1 hun1 hcl O C BL NL LL
      obtain ⟨Sc5, hc5⟩ := O5.out.cache
      have hfil : L1.filter (fun p => p.2.dirty) = [] := List.filter_eq_nil_iff.2 fun p hp => by rw [CL5.out p hp]; decide
      have Hfil := Lib.hid hfil
      clear hfil
      go_wp2_with fail
      refine (dirty_any hc5 C5.out.fine.len).mono ?_
      rintro e w6 ⟨v, ld, rfl, hI, hp, hb⟩
      have hld : ld = [] := by rw [Hfil.out] at hp; exact List.perm_nil.1 hp
      subst hld
      obtain ⟨Av, cv, rfl, _, _⟩ := hI.len
      have O6 := Lib.hid (O5.out.below hb)
      have BL6 := Lib.hid (BL5.out.below hb BL5.out.lt)
      have L6 := Lib.hid (L5.out.trans (hb.mono L5.out.size))
      clear hI hp hb hc5 O5 BL5 L5
      obtain ⟨Sd6, hd6⟩ := O6.out.disk
      have D6 := Lib.hid hd6
      clear hd6
      go_wp2_with (go_at_call 21; refine (done_any _ _ _ k1 D6.out).mono ?_; rintro e w' ⟨rfl, rfl⟩)
      refine (flush_all O6.out L6.out.size C5.out.fine (by omega) (fun p hp => Nat.le_trans (C5.out.pins p hp) (by decide))).mono ?_
      rintro e w7 ⟨l2, L2, k2, S2, rfl, hR2, hO2, hst2⟩
      have hl2 : l2 = [] := by have := hR2.1; rw [Hfil.out] at this; exact List.perm_nil.1 this
      obtain ⟨hC2, hK2, hcl2, hun2, hdn2⟩ := coh_flush C5.out hR2
      have hdone := hdn2 hl2
      have hclean2 : ∀ p ∈ L2, p.2.dirty = false := fun p hp => hcl2 p hp (Nat.le_zero.1 (hC2.pins p hp))
      have hnow : ∀ s, s < 8 → (k2.crash 0).now[s]? = some (V s) := fun s hs => by
        have h1 := hC2.now s hs fun x hx => hclean2 _ hx
        have e1 : k2.now = k2.safe := by unfold Dk.now; rw [hun2]; rfl
        have e2 : (k2.crash 0).now = k2.safe := by unfold Dk.now Dk.crash Dk.settle; simp [hun2, kept, puts]
        rw [e2, ← e1]; exact h1
      have Hnow := Lib.hid hnow
      have Hdone := Lib.hid hdone
      have Hun2 : Hid (k2.un.length ≤ 1073741824) := by rw [hun2]; exact Nat.zero_le _
      have BL7 := Lib.hid (hst2.bk BL6.out fun h => N5.out gl h rfl)
      have N7 : Hid (∀ t, S2 t → t ≠ gl) := fun u hu e => hst2.not BL6.out.lt (fun h => N5.out gl h rfl) (e ▸ hu)
      have L7 := Lib.hid (L6.out.trans (hst2.below O6.out.2 L6.out.size))
      have O7 := Lib.hid hO2
      clear hR2 hl2 hC2 hK2 hcl2 hun2 hdn2 hdone hclean2 hnow hst2 hO2 O6 BL6 L6 N5 D6
      obtain ⟨⟨Sc7, Sd7, hS7, hc7, hd7⟩, hn7⟩ := O7.out
      have D7 := Lib.hid hd7
      have N8 : Hid (∀ t, Sd7 t → t ≠ gl) := fun u hu => N7.out u (by rw [hS7]; exact .inr hu)
      have M8 : Hid (∀ i, Sd7 i → w.heap.size ≤ i) := fun i hi => hn7 i (by rw [hS7]; exact .inr hi)
      clear hS7 hc7 hd7 hn7 O7 N7 C5 CL5
      go_wp2_with (go_at_call 21; refine (done_any _ _ _ k2 D7.out).mono ?_; rintro e w' ⟨rfl, rfl⟩; rw [Hdone.out])
      refine (crash_any sec_enc _ _ _ k2 D7.out Hun2.out 0 (by decide)).mono ?_
      rintro e w8 ⟨rfl, hK8, S8, hd8, hS8⟩
      have D8 := Lib.hid hd8
      have BL8 : Hid (Bk w8 gl 31 (lastV V)) := (hK8.block gl BL7.out.lt fun h => N8.out gl h rfl).trans BL7.out
      have L8 := Lib.hid (L7.out.trans (hK8.below M8.out L7.out.size))
      clear hK8 hd8 hS8 D7 BL7 L7 N8 M8
      have Hdead : Hid ((k2.crash 0).dead = false) := rfl
      generalize k2.crash 0 = k3 at Hnow D8 Hdead
      go_wp2
      go_loopw [100] (fun i wx => ∃ j2 : Nat, j2 ≤ 8 ∧ i = .int .i64 (j2 : Int) ∧ Below w8.heap.size w8 wx) (fun i _ => 8 - (intOf i).toNat)
      case atStart => exact ⟨0, by omega, rfl, Below.refl _ _⟩
      case round =>
        obtain ⟨t', ht8, rfl, hbx⟩ := hrel
        have Hbx := Lib.hid hbx
        clear hbx
        by_cases hlt2 : t' < 8
        · have hV256 := HV.out t'
          have hle : (t' : Int) < 8 := by omega
          go_wp2_with fail
          refine (read_any _ _ _ k3 (D8.out.below Hbx.out) t' (V t') (same (V t')) (.int .u16 (V t' : Int)) (Hnow.out t' hlt2) rfl (same_length _) (same_one _) Hdead.out).mono ?_
          rintro e w9 ⟨rfl, hB9, hb9⟩
          obtain ⟨g9, hg9⟩ : ∃ g9, g9 = wr.heap.size := ⟨_, rfl⟩
          rw [← hg9] at hB9 ⊢
          have B9 := Lib.hid hB9
          have H9 := Lib.hid (Hbx.out.trans (hb9.mono Hbx.out.size))
          have BL9 := Lib.hid ((BL8.out.below Hbx.out BL8.out.lt).below hb9 (Nat.lt_of_lt_of_le BL8.out.lt Hbx.out.size))
          clear hB9 hb9 hg9
          go_wp2
          refine wp_region_held_drew (S := fun u : World => Below w9.heap.size w9 u) (by kernel_rfl) (Below.refl _ _).drew (fun hHeld => ?_)
          refine wpAnyH_take (i := 0) (oi := _) (v := ?_) (by simp only [List.getElem?_toArray, List.getElem?_cons_zero]; rfl) (by kernel_rfl) (by kernel_rfl) (by kernel_rfl) (by exact fun _ _ _ h => h) (Or.inl ⟨by rfl, ?hyg0⟩) ((Below.refl _ _).drew) ?reg0
          case hyg0 => (intro u hSw; have e1 := conv_any (B9.out.below hSw B9.out.lt) hV256; have d2 : u.cell? ⟨gl, t', none⟩ = some (.int .u8 (V t' : Int)) := ((BL9.out.below hSw BL9.out.lt).cell t').trans (lastV_get V hlt2); clear hSw; go_simp <;> with_reducible rfl)
          try simp only [Act.put, List.setIfInBounds_toArray, List.set_cons_zero, List.set_cons_succ]
          refine wpAnyH_take (i := 1) (oi := _) (v := ?_) (by simp only [List.getElem?_toArray, List.getElem?_cons_succ, List.getElem?_cons_zero]; rfl) (by kernel_rfl) (by kernel_rfl) (by kernel_rfl) (by exact fun _ _ _ h => h) (Or.inl ⟨by rfl, ?hyg1⟩) ((Below.refl _ _).drew) ?reg1
          case hyg1 => (intro u hSw; have e1 := conv_any (B9.out.below hSw B9.out.lt) hV256; have d2 : u.cell? ⟨gl, t', none⟩ = some (.int .u8 (V t' : Int)) := ((BL9.out.below hSw BL9.out.lt).cell t').trans (lastV_get V hlt2); clear hSw; go_simp <;> with_reducible rfl)
          try simp only [Act.put, List.setIfInBounds_toArray, List.set_cons_zero, List.set_cons_succ]
          refine wpAnyH_take (i := 2) (oi := _) (v := ?_) (by simp only [List.getElem?_toArray, List.getElem?_cons_succ, List.getElem?_cons_zero]; rfl) (by kernel_rfl) (by kernel_rfl) (by kernel_rfl) (by exact fun _ _ _ h => h) (Or.inl ⟨by rfl, ?hyg2⟩) ((Below.refl _ _).drew) ?reg2
          case hyg2 => (intro u hSw; have e1 := conv_any (B9.out.below hSw B9.out.lt) hV256; have d2 : u.cell? ⟨gl, t', none⟩ = some (.int .u8 (V t' : Int)) := ((BL9.out.below hSw BL9.out.lt).cell t').trans (lastV_get V hlt2); clear hSw; go_simp <;> with_reducible rfl)
          try simp only [Act.put, List.setIfInBounds_toArray, List.set_cons_zero, List.set_cons_succ]
          refine wpAnyH_take (i := 3) (oi := _) (v := ?_) (by simp only [List.getElem?_toArray, List.getElem?_cons_succ, List.getElem?_cons_zero]; rfl) (by kernel_rfl) (by kernel_rfl) (by kernel_rfl) (by exact fun _ _ _ h => h) (Or.inl ⟨by rfl, ?hyg3⟩) ((Below.refl _ _).drew) ?reg3
          case hyg3 => (intro u hSw; have e1 := conv_any (B9.out.below hSw B9.out.lt) hV256; have d2 : u.cell? ⟨gl, t', none⟩ = some (.int .u8 (V t' : Int)) := ((BL9.out.below hSw BL9.out.lt).cell t').trans (lastV_get V hlt2); clear hSw; go_simp <;> with_reducible rfl)
          try simp only [Act.put, List.setIfInBounds_toArray, List.set_cons_zero, List.set_cons_succ]
          refine wpAnyH_take (i := 4) (oi := _) (v := ?_) (by simp only [List.getElem?_toArray, List.getElem?_cons_succ, List.getElem?_cons_zero]; rfl) (by kernel_rfl) (by kernel_rfl) (by kernel_rfl) (by exact fun _ _ _ h => h) (Or.inl ⟨by rfl, ?hyg4⟩) ((Below.refl _ _).drew) ?reg4
          case hyg4 => (intro u hSw; have e1 := conv_any (B9.out.below hSw B9.out.lt) hV256; have d2 : u.cell? ⟨gl, t', none⟩ = some (.int .u8 (V t' : Int)) := ((BL9.out.below hSw BL9.out.lt).cell t').trans (lastV_get V hlt2); clear hSw; go_simp <;> with_reducible rfl)
          try simp only [Act.put, List.setIfInBounds_toArray, List.set_cons_zero, List.set_cons_succ]
          refine wpAnyH_take (i := 5) (oi := _) (v := ?_) (by simp only [List.getElem?_toArray, List.getElem?_cons_succ, List.getElem?_cons_zero]; rfl) (by kernel_rfl) (by kernel_rfl) (by kernel_rfl) (by exact fun _ _ _ h => h) (Or.inl ⟨by rfl, ?hyg5⟩) ((Below.refl _ _).drew) ?reg5
          case hyg5 => (intro u hSw; have e1 := conv_any (B9.out.below hSw B9.out.lt) hV256; have d2 : u.cell? ⟨gl, t', none⟩ = some (.int .u8 (V t' : Int)) := ((BL9.out.below hSw BL9.out.lt).cell t').trans (lastV_get V hlt2); clear hSw; go_simp <;> with_reducible rfl)
          try simp only [Act.put, List.setIfInBounds_toArray, List.set_cons_zero, List.set_cons_succ]
          refine wpAnyH_take (i := 6) (oi := _) (v := ?_) (by simp only [List.getElem?_toArray, List.getElem?_cons_succ, List.getElem?_cons_zero]; rfl) (by kernel_rfl) (by kernel_rfl) (by kernel_rfl) (by exact fun _ _ _ h => h) (Or.inl ⟨by rfl, ?hyg6⟩) ((Below.refl _ _).drew) ?reg6
          case hyg6 => (intro u hSw; have e1 := conv_any (B9.out.below hSw B9.out.lt) hV256; have d2 : u.cell? ⟨gl, t', none⟩ = some (.int .u8 (V t' : Int)) := ((BL9.out.below hSw BL9.out.lt).cell t').trans (lastV_get V hlt2); clear hSw; go_simp <;> with_reducible rfl)
          try simp only [Act.put, List.setIfInBounds_toArray, List.set_cons_zero, List.set_cons_succ]
          refine wpAnyH_take (i := 7) (oi := _) (v := ?_) (by simp only [List.getElem?_toArray, List.getElem?_cons_succ, List.getElem?_cons_zero]; rfl) (by kernel_rfl) (by kernel_rfl) (by kernel_rfl) (by exact fun _ _ _ h => h) (Or.inl ⟨by rfl, ?hyg7⟩) ((Below.refl _ _).drew) ?reg7
          case hyg7 => (intro u hSw; have e1 := conv_any (B9.out.below hSw B9.out.lt) hV256; have d2 : u.cell? ⟨gl, t', none⟩ = some (.int .u8 (V t' : Int)) := ((BL9.out.below hSw BL9.out.lt).cell t').trans (lastV_get V hlt2); clear hSw; go_simp <;> with_reducible rfl)
          try simp only [Act.put, List.setIfInBounds_toArray, List.set_cons_zero, List.set_cons_succ]
          refine wpAnyH_ready (rs := [8]) (by kernel_rfl) (by simp) ?_
          refine AllReadyH.cons (o := _) (by simp only [List.getElem?_toArray, List.getElem?_cons_succ, List.getElem?_cons_zero]; rfl) (fun K hK => ?_) AllReadyH.nil
          go_simp
          refine (patch_any 0 (V t') hV256 _).mono ?_
          rintro e w7 ⟨g7, rfl, hg7, hB7, hb7⟩
          have hS7 : Below w9.heap.size w9 w7 := (Below.refl _ w9).drew.trans (hb7.mono (Nat.le_refl _))
          have S7 := Lib.hid hS7
          have B7 := Lib.hid hB7
          clear hS7 hB7 hb7 hg7
          go_simp
          refine hK.out _ _ S7.out (fun hHeld2 => ?_)
          refine held_strong (T := fun u => Bk u g7 5 (same (V t')) ∧ Below w9.heap.size w9 u) (by rintro _ ⟨_, h⟩; exact h) _ _ _ _ ?_
          clear hK K hHeld hHeld2
          refine wpAnyH_take (i := 9) (oi := _) (v := ?_) (by simp only [List.getElem?_toArray, List.getElem?_cons_succ, List.getElem?_cons_zero]; rfl) (by kernel_rfl) (by kernel_rfl) (by kernel_rfl) (by exact fun _ _ _ h => h) (Or.inl ⟨by rfl, ?hyh9⟩) (⟨B7.out, S7.out⟩) ?reh9
          case hyh9 => (rintro u ⟨hA, hSw⟩; have e0 := conv_any hA hV256; have e3 := strS_same (V t'); have e4 := run_field41 u; clear hA hSw; go_simp <;> with_reducible rfl)
          try simp only [Act.put, List.setIfInBounds_toArray, List.set_cons_zero, List.set_cons_succ]
          refine wpAnyH_take (i := 10) (oi := _) (v := ?_) (by simp only [List.getElem?_toArray, List.getElem?_cons_succ, List.getElem?_cons_zero]; rfl) (by kernel_rfl) (by kernel_rfl) (by kernel_rfl) (by exact fun _ _ _ h => h) (Or.inl ⟨by rfl, ?hyh10⟩) (⟨B7.out, S7.out⟩) ?reh10
          case hyh10 => (rintro u ⟨hA, hSw⟩; have e0 := conv_any hA hV256; have e3 := strS_same (V t'); have e4 := run_field41 u; clear hA hSw; go_simp <;> with_reducible rfl)
          try simp only [Act.put, List.setIfInBounds_toArray, List.set_cons_zero, List.set_cons_succ]
          refine wpAnyH_take (i := 11) (oi := _) (v := ?_) (by simp only [List.getElem?_toArray, List.getElem?_cons_succ, List.getElem?_cons_zero]; rfl) (by kernel_rfl) (by kernel_rfl) (by kernel_rfl) (by exact fun _ _ _ h => h) (Or.inl ⟨by rfl, ?hyh11⟩) (⟨B7.out, S7.out⟩) ?reh11
          case hyh11 => (rintro u ⟨hA, hSw⟩; have e0 := conv_any hA hV256; have e3 := strS_same (V t'); have e4 := run_field41 u; clear hA hSw; go_simp <;> with_reducible rfl)
          try simp only [Act.put, List.setIfInBounds_toArray, List.set_cons_zero, List.set_cons_succ]
          refine wpAnyH_take (i := 12) (oi := _) (v := ?_) (by simp only [List.getElem?_toArray, List.getElem?_cons_succ, List.getElem?_cons_zero]; rfl) (by kernel_rfl) (by kernel_rfl) (by kernel_rfl) (by exact fun _ _ _ h => h) (Or.inl ⟨by rfl, ?hyh12⟩) (⟨B7.out, S7.out⟩) ?reh12
          case hyh12 => (rintro u ⟨hA, hSw⟩; have e0 := conv_any hA hV256; have e3 := strS_same (V t'); have e4 := run_field41 u; clear hA hSw; go_simp <;> with_reducible rfl)
          try simp only [Act.put, List.setIfInBounds_toArray, List.set_cons_zero, List.set_cons_succ]
          refine wpAnyH_done (by kernel_rfl) ?_ _
          have HT := Lib.hid (H9.out.trans (S7.out.mono H9.out.size))
          go_wp2
          go_roundw
          case rel => exact ⟨t' + 1, by omega, by go_num, HT.out⟩
          case measure => simp [intOf]; omega
        · obtain rfl : t' = 8 := by omega
          go_wp2
          go_ret
          exact ⟨rfl, L8.out.trans (Hbx.out.mono L8.out.size)⟩

theorem clean_int (x : Int) (hx : 0 ≤ x) (hx2 : x < 256) (l : List Act) (A : Option Addr) (n c : Nat) (w : World) (hn : l.length = n) (hc : n ≤ c) (hm : c ≤ 9223372036854775807) (ha : Acts w w.heap.size A l) :
    Calls Try.prog 5 #[.int .u8 x, .slice A n c] w fun e w' => e = .returned (.bool true) ∧ Below w.heap.size w w' := by
  obtain ⟨r, rfl⟩ : ∃ r : Nat, x = (r : Int) := ⟨x.toNat, by omega⟩
  exact clean_walk r (by omega) l A n c w hn hc hm ha

theorem clean_contract (H : Type) (enc : TypeId × Value → H) (W : World) (base : Nat) (args : Array Value) (ds gs : List (DataW H)) (before : List MemPlace)
    (hval : ∀ (j : Nat) t v, Try.f5.params[j]? = some t → args[j]? = some v → Value.okWide Try.prog W .any base t v)
    (hW : DataW.Whole enc Try.prog Try.f5.params.toList Rows.cacheCleanSpec.vars false W args.toList ds gs before) :
    Calls Try.prog 5 args W fun e W' => ∃ v, e = .returned v ∧ Rows.cacheCleanSpec.post enc Try.prog Try.f5 false true false false W args v W' := by
  have hW' := hW
  have hlt : ∀ x ∈ before, x.block < W.heap.size := fun x hx => hW.lt x hx
  obtain ⟨p, q, hA0, hV, rfl, _, _⟩ := hW
  have hA : DataW.TrodAll enc Try.prog W 0 (fun _ => true) true Try.f5.params.toList args.toList ds p := hA0
  rw [Try.params5] at hA hval
  obtain ⟨v0, vs0, d0, ds0, p0, q0, hargs, rfl, rfl, h0, r0⟩ := trodAll_cons hA
  obtain ⟨v1, vs1, d1, ds1, p1, q1, rfl, rfl, rfl, h1, r1⟩ := trodAll_cons r0
  obtain ⟨rfl, rfl, rfl⟩ := trodAll_nil r1
  obtain rfl : args = #[v0, v1] := by cases args; simp_all
  obtain ⟨rfl, rfl⟩ := trodVars_none hV
  clear hA0
  obtain ⟨a0, rfl, rfl, rfl, wa0⟩ := open_int Try.underlying5 (hval 0 5 v0 rfl rfl) h0
  have bd0 := bounds_u8 wa0
  obtain ⟨A1, n1, c1, l1, rfl, hn1, hc1, hm1, hr1⟩ := open_actsL (hval 1 22 v1 rfl rfl) h1 (fun x hx => hlt x (by simp [hx]))
  unfold maxLen at hm1
  refine (clean_int a0 (by omega) (by omega) l1 A1 n1 c1 W hn1 hc1 (by omega) hr1).mono fun e W' ⟨he, hb⟩ => ?_
  subst he
  exact ⟨_, rfl, law_post laid (by kernel_rfl) Try.underlying4 (by rw [Try.params5]; decide +kernel) rfl hW' ⟨rfl, rfl, rfl⟩ hb⟩

set_option maxRecDepth 100000 in
theorem clean_lifted (os : Os) (started : os.Started) (H : Type) (enc : TypeId × Value → H) :
    ReturnsInHanded {} Try.checked os 5 .any (Rows.cacheCleanSpec.pre6 enc Try.prog Try.f5 Rows.cacheCleanRow.domain false) (Rows.cacheCleanSpec.post enc Try.prog Try.f5 false true false false) := by
  refine returnsInHanded_of_change (C := Try.checked) own started (by kernel_rfl) Try.func5
    (ChangeSpec.witness6 (enc := enc) (C := Try.checked) false ⟨#[], #[.int .u8 0, .slice none 0 0], []⟩ 8 (by kernel_rfl) (by kernel_rfl) (by kernel_rfl) (by kernel_rfl)) ?_
  intro W base args ds gs before hval hW _ _
  exact clean_contract H enc W base args ds gs before hval hW

/-- CacheClean is true for every input. -/
theorem clean_holds : Rows.CacheCleanSaid :=
  OpenClaim.holds_of_wide 5 Try.f5 rfl rfl rfl rfl rfl rfl rfl ⟨rfl, rfl, rfl, rfl, rfl⟩ rfl rfl rfl rfl rfl (by kernel_rfl) Try.func5 (by kernel_rfl)
    (of_decide_eq_true (by kernel_rfl)) (by unfold Func.isWrapper; first | (rw [if_pos (by decide +kernel)]; kernel_rfl) | (rw [if_neg (by decide +kernel)]; exact ⟨rfl, rfl⟩))
    (fun os started H enc _ => clean_lifted os started H enc)
end Go.Proofs.Ytnmfpgeojggjbaa
