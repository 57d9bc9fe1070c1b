/-
  Statement CacheFirst: the sector that was asked last is told first, it is kept, and of those that were kept only one goes: the one that was asked longest ago of those that are not pinned. No condition.
-/
import Derived.Test.YtnmfpgeojggjbaaO
import Derived.Test.YtnmfpgeojggjbaaR
import Derived.Test.YtnmfpgeojggjbaaT
namespace Go.Proofs.Ytnmfpgeojggjbaa
open Go.RowKit Go.ChangeShapes Go.WideShapes Go.ChangeAt
attribute [local go_sem ↓] Go.wp_at_zero Go.wp_at_succ

abbrev PMap (w : World) (b : Nat) (at_ : Int → Int) (there : Int → Bool) (m : Nat) : Prop := MapIs (plainElem (H := Unit) Try.prog 3) (fun x : Int => (.lit (.int .i64 x) : DataW Unit)) 0 w b at_ there m
theorem coh_start (n room : Nat) (hn : n ≤ 4096) : Coh n 0 room (fun _ => 0) 0 [] (Dk.fresh n 0) :=
  ⟨⟨by simp, by simp, by simp [Dk.fresh, hn], rfl, rfl, Nat.le_refl _, by simp⟩, by simp [Dk.fresh], by simp, by simp, fun s hs _ => by simp [Dk.now, Dk.fresh, puts, hs], by simp, by simp⟩

set_option maxRecDepth 100000 in
set_option maxHeartbeats 6400000 in
theorem first_walk (r : Nat) (hr : r < 256) (l : List Act) (A : Option Addr) (n c : Nat) (w : World) (hn : l.length = n) (hc : n ≤ c) (hm : c ≤ 9223372036854775807) (ha : Acts w w.heap.size A l) :
    Calls Try.prog 7 #[.int .u8 (r : Int), .slice A n c] w fun e w' => e = .returned (.bool true) ∧ Below w.heap.size w w' := by
  obtain ⟨m, hm9⟩ : ∃ m, m = r % 9 := ⟨_, rfl⟩
  have h9 : (r : Int) % 9 = (m : Int) := by omega
  obtain ⟨rm, hrm⟩ : ∃ rm, rm = m + 1 := ⟨_, rfl⟩
  have hrmi : (m : Int) + 1 = (rm : Int) := by omega
  have hml : m < 9 := by omega
  have hrl : 1 ≤ rm ∧ rm ≤ 9 := by omega
  have HA := Lib.hid ha
  have Hn := Lib.hid hn
  have Hrl := Lib.hid hrl
  clear ha hn hrl hrm hm9
  go_enter Try.func7, Try.ntmps7
  go_wp2_with fail
  refine (shown_any _).mono ?_
  rintro e w1 ⟨rfl, hb⟩
  have L1 := Lib.hid hb
  clear hb
  go_wp2_with fail
  refine (new_any (f := sec) _ 8 (by decide) 0 sec_zero).mono ?_
  rintro e w2 ⟨bd, Sd, rfl, hb, hD, hS⟩
  have D2 := Lib.hid hD
  have HS2 := Lib.hid fun i (hi : Sd i) => Nat.le_trans L1.out.size (hS i hi)
  have L2 := Lib.hid (L1.out.trans (hb.mono L1.out.size))
  clear hb hD hS L1
  go_wp2_with fail
  refine (cnew_any _ bd rm Hrl.out.1 (Nat.le_trans Hrl.out.2 (by decide))).mono ?_
  rintro e w3 ⟨b, Sc, rfl, hb, hC, hS⟩
  have O3 : Hid (Ours w.heap.size w3 b bd rm [] (Dk.fresh 8 0) (fun i => Sc i ∨ Sd i)) := Ours.start D2.out HS2.out hb L2.out.size hC hS
  have L3 := Lib.hid (L2.out.trans (hb.mono L2.out.size))
  clear hb hC hS D2 HS2 L2
  have hmm := @run_makeMap Try.prog
  go_wp2_with fail
  have hMm : PMap (w3.alloc (.map #[] 0)) w3.heap.size (fun _ => 0) (fun _ => false) 0 := MapIs.made w3 (plainElem (H := Unit) Try.prog 3) (fun x : Int => (.lit (.int .i64 x) : DataW Unit)) 0
  have hbm : Below w3.heap.size w3 (w3.alloc (.map #[] 0)) := (Below.refl _ _).alloc (Nat.le_refl _) _
  have O4 := Lib.hid (O3.out.below hbm)
  have L4 := Lib.hid (L3.out.trans (hbm.mono L3.out.size))
  have N4 : Hid (¬ (Sc w3.heap.size ∨ Sd w3.heap.size)) := O3.out.new (Nat.le_refl _)
  have M4 := Lib.hid hMm
  have G4 : Hid (w.heap.size ≤ w3.heap.size) := L3.out.size
  clear hMm hbm O3 L3 hmm
  obtain ⟨gm, hgm⟩ : ∃ gm, gm = w3.heap.size := ⟨_, rfl⟩
  rw [← hgm] at M4 N4 G4 ⊢
  generalize w3.alloc (.map #[] 0) = w4 at *
  clear hgm
  have HA4 : Hid (Acts w4 w4.heap.size A l) := by
    have h1 := HA.out.below L4.out
    rcases h1 with h1 | ⟨b', o, h1, h2, h3⟩
    · exact .inl h1
    · exact .inr ⟨b', o, h1, Nat.lt_of_lt_of_le h2 L4.out.size, h3⟩
  refine (few_any l A n c w4 Hn.out hc hm HA4.out).mono ?_
  rintro e w4' ⟨q, rfl, hq, hq2, rfl⟩
  go_wp2
  go_loopw [47] (fun i wr => ∃ (j : Nat) (V : Nat → Nat) (L : List (Nat × Sl)) (k : Dk Nat) (S : Nat → Prop) (pn : Int → Int) (pt : Int → Bool) (m : Nat), j ≤ q ∧ i = .int .i64 (j : Int) ∧ Ours w.heap.size wr b bd rm L k S ∧ Coh 8 j rm V j L k ∧ PMap wr gm pn pt m ∧ PinsAre pn L ∧ m ≤ j ∧ ¬ S gm ∧ Below w.heap.size w wr) (fun i _ => q - (intOf i).toNat)
  case atStart => exact ⟨0, fun _ => 0, [], Dk.fresh 8 0, _, _, _, 0, Nat.zero_le _, rfl, O4.out, coh_start 8 rm (by decide), M4.out, PinsAre.start, Nat.le_refl _, N4.out, L4.out⟩
  case round =>
    clear O4 M4 N4 L4 HA4
    obtain ⟨j, V, L, k, S, pn, pt, m2, hj, rfl, hO, hC, hM, hP, hm2, hN, hL⟩ := hrel
    have O := Lib.hid hO
    have C := Lib.hid hC
    have M := Lib.hid hM
    have HP := Lib.hid hP
    have NL := Lib.hid hN
    have LL := Lib.hid hL
    clear hO hC hM hP hN hL
    by_cases hlt : j < q
    · obtain ⟨ba, oa, a, rfl, hba, hal, hag, c0, c1, c2, c3⟩ := (HA.out.below LL.out).at (i := j) (by rw [Hn.out]; omega)
      have hk8 := hag.kind
      have hai := hag.at_
      have hac := hag.c
      obtain ⟨kd, hkd⟩ : ∃ kd, kd = a.kind := ⟨_, rfl⟩
      obtain ⟨ac, hacc⟩ : ∃ ac, ac = a.c := ⟨_, rfl⟩
      obtain ⟨at_, hat⟩ : ∃ at_, at_ = a.at_ := ⟨_, rfl⟩
      rw [← hkd] at c0 hk8
      rw [← hacc] at c2 hac
      rw [← hat] at c1 hai
      have HI := Lib.hid hai
      obtain ⟨bA, hbA⟩ : ∃ bA, bA = a.bA := ⟨_, rfl⟩
      obtain ⟨bn, hbn⟩ : ∃ bn, bn = a.bn := ⟨_, rfl⟩
      obtain ⟨bc, hbc⟩ : ∃ bc, bc = a.bc := ⟨_, rfl⟩
      rw [← hbA, ← hbn, ← hbc] at c3
      clear hkd hacc hat hbA hbn hbc hal hag hba hai
      have hBa := Bk.new wr 35 [.int .u8 (kd : Int), .int .i64 at_, .int .u8 (ac : Int), .slice bA bn bc]
      have hb0 : Below wr.heap.size wr (wr.alloc (.cells #[.int .u8 (kd : Int), .int .i64 at_, .int .u8 (ac : Int), .slice bA bn bc] 35)) := (Below.refl _ wr).alloc (Nat.le_refl _) _
      have O0 := Lib.hid (O.out.below hb0)
      have M0 := Lib.hid (M.out.keep (hb0.block gm M.out.lt))
      have NA0 : Hid (¬ S wr.heap.size) := O.out.new (Nat.le_refl _)
      have BA0 := Lib.hid hBa
      have L0 := Lib.hid (LL.out.trans (hb0.mono LL.out.size))
      have GA : Hid (w.heap.size ≤ wr.heap.size) := LL.out.size
      have HJ : Hid (j + 1 ≤ 200) := by unfold Hid; omega
      clear hBa hb0
      obtain ⟨ScH, hcH⟩ := O0.out.cache
      have HcH := Lib.hid hcH
      clear hcH
      go_wp2_with fail
      refine (has_cached HcH.out C.out.fine.len).mono ?_
      rintro e wH ⟨v, rfl, hI, hb⟩
      obtain ⟨gb, hgb⟩ : ∃ gb, gb = wr.heap.size := ⟨_, rfl⟩
      rw [← hgb] at BA0 NA0 GA ⊢
      obtain ⟨was, hwas⟩ : ∃ was, was = (keysI L).reverse := ⟨_, rfl⟩
      rw [← hwas] at hI
      obtain ⟨Av, cv, hv, hvc, hvm⟩ := hI.len
      obtain ⟨nH, hnH⟩ : ∃ nH, nH = was.length := ⟨_, rfl⟩
      rw [← hnH] at hv hvc
      subst hv
      have OH := Lib.hid (O0.out.below hb)
      have MH := Lib.hid (M0.out.keep (hb.block gm M0.out.lt))
      have LH := Lib.hid (L0.out.trans (hb.mono L0.out.size))
      have BH := Lib.hid (BA0.out.below hb BA0.out.lt)
      have IH := Lib.hid hI
      have NI : Hid (∀ g, (Value.slice Av nH cv).ownBlock = some g → ¬ S g) := fun g hg hs => by
        have h1 := (hI.lt hg).2.1
        have h2 := O0.out.1.lt hs
        omega
      have Hwas := Lib.hid hwas
      have HnH := Lib.hid hnH
      have hwl : was.length = L.length := by rw [hwas]; simp [keysI]
      have hnr : nH ≤ rm := by rw [hnH, hwl]; exact C.out.room
      unfold maxLen at hvm
      have HmI : Hid (m2 < maxLen) := by unfold maxLen Hid; omega
      clear hI hb hwas hnH hwl O M LL O0 M0 L0 BA0 HcH hgb
      have b0 : wH.cell? ⟨gb, 0, none⟩ = some (.int .u8 (kd : Int)) := BH.out.cell 0
      have b1 : wH.cell? ⟨gb, 1, none⟩ = some (.int .i64 at_) := BH.out.cell 1
      have b2 : wH.cell? ⟨gb, 2, none⟩ = some (.int .u8 (ac : Int)) := BH.out.cell 2
      have hkk : (kd : Int) % 8 = 0 ∨ (kd : Int) % 8 = 1 ∨ (kd : Int) % 8 = 2 ∨ (kd : Int) % 8 = 3 ∨ (kd : Int) % 8 = 4 ∨ (kd : Int) % 8 = 5 ∨ (kd : Int) % 8 = 6 ∨ (kd : Int) % 8 = 7 := by omega
      rcases hkk with hk | hk | hk | hk | hk | hk | hk | hk
      · as_aux_lemma =>
          go_wp2_with fail
          refine (get_all OH.out LH.out.size C.out.fine (by have := HJ.out; omega) at_).mono ?_
          rintro e wT ⟨v, err, L', k', S', rfl, hR, hO, hst, hv⟩
          clear hv
          have hC' := (coh_get C.out Hrl.out.1 (Nat.le_trans Hrl.out.2 (by decide)) hR).1
          have CT : Hid (Coh 8 (j + 1) rm V (j + 1) L' k') := hC'.up (Nat.le_refl _) (Nat.le_succ _)
          have OT := Lib.hid hO
          have MT := Lib.hid (MH.out.keep (hst.1.block gm MH.out.lt NL.out))
          have NT : Hid (¬ S' gm) := hst.not MH.out.lt NL.out
          have LT := Lib.hid (LH.out.trans (hst.below OH.out.2 LH.out.size))
          have BT := Lib.hid (hst.bk BH.out NA0.out)
          have IT := Lib.hid ((IH.out.keep fun g hg => hst.1.block g (IH.out.lt hg).1 (NI.out g hg)).more (Nat.zero_le _))
          by_cases herr : err = 0
          · subst herr
            have hT := get_touch hR
            have HPT := Lib.hid (HP.out.touch C.out hT)
            have hTold := touch_told HP.out C.out hT
            rw [← Hwas.out] at hTold
            clear hC' hT hR hO hst OH MH LH BH IH
            obtain ⟨now, hnow⟩ : ∃ now, now = (keysI L').reverse := ⟨_, rfl⟩
            rw [← hnow] at hTold
            have Hnow := Lib.hid hnow
            have HTold := Lib.hid hTold
            have HwI : Hid (∀ z ∈ was, I64 z) := fun z hz => by
              rw [Hwas.out, List.mem_reverse] at hz
              obtain ⟨p, hp, rfl⟩ := List.mem_map.1 hz
              exact I64_nat (Nat.le_trans (Nat.le_of_lt (C.out.fine.key p hp)) C.out.fine.n)
            have b4 : wT.cell? ⟨gb, 1, none⟩ = some (.int .i64 at_) := BT.out.cell 1
            clear hnow hTold
            go_wp2
            go_loopw [17, 18, 103] (fun u kb i wx => ∃ j2 : Nat, j2 ≤ nH ∧ i = .int .i64 (j2 : Int) ∧ Ints wx wT.heap.size u ((was.take j2).filter fun a => decide (a ≠ at_)) ∧ kb = .bool (decide (at_ ∈ was.take j2)) ∧ Below wT.heap.size wT wx) (fun _ _ i _ => nH - (intOf i).toNat)
            case atStart => exact ⟨0, Nat.zero_le _, rfl, Ints.nil _ _, by simp, Below.refl _ _⟩
            case round =>
              obtain ⟨j2, hj2, rfl, hW, rfl, hbx⟩ := hrel
              have HW := Lib.hid hW
              have Hbx := Lib.hid hbx
              clear hW hbx
              by_cases hlt2 : j2 < nH
              · have hjl : j2 < was.length := by rw [← HnH.out]; exact hlt2
                obtain ⟨gv, cv', hv, hcell, _⟩ := (IT.out.below Hbx.out).get hjl
                obtain rfl : Av = some ⟨gv, 0, none⟩ := by injection hv
                clear hv
                obtain ⟨z, hz⟩ : ∃ z, z = was[j2] := ⟨_, rfl⟩
                rw [← hz] at hcell
                have htk : was.take (j2 + 1) = was.take j2 ++ [z] := by rw [hz]; exact List.take_succ_eq_append_getElem hjl
                have Htk := Lib.hid htk
                have b5 : wr.cell? ⟨gb, 1, none⟩ = some (.int .i64 at_) := (BT.out.below Hbx.out BT.out.lt).cell 1
                have Hle : Hid (((was.take j2).filter fun a => decide (a ≠ at_)).length ≤ 1000000) := by
                  have h1 := List.length_filter_le (fun a => decide (a ≠ at_)) (was.take j2)
                  have h2 := List.length_take_le j2 was
                  have := Hrl.out
                  unfold Hid
                  omega
                clear hz htk hjl
                by_cases hza : z = at_
                · rw [hza] at hcell Htk
                  clear hza
                  go_wp2
                  go_roundw
                  case rel =>
                    refine ⟨j2 + 1, by omega, by go_num, ?_, ?_, Hbx.out⟩
                    · rw [Htk.out, List.filter_append]
                      simpa using HW.out
                    · rw [Htk.out]
                      simp
                  case measure => simp [intOf]; omega
                · go_wp2_with (at_builtin; refine wpList_snoc _ rfl (.tmp 111) (.tmp 113) rfl wT.heap.size u17 _ rfl (HW.out.below ((Below.refl _ _).alloc (Nat.le_refl _) _)) _ z rfl (Bk.cell (Bk.new _ 3 [.int .i64 z]) 0) Hle.out (Nat.le_trans Hbx.out.size (by simp)) ?_; intro v' w3 hI3 hg3 hl3; have HI3 := Lib.hid hI3; have Hg3 := Lib.hid hg3; clear hI3 hg3 hl3)
                  go_roundw
                  case rel =>
                    refine ⟨j2 + 1, by omega, by go_num, ?_, ?_, (Hbx.out.alloc Hbx.out.size (.cells #[.int .i64 z] 3)).grown Hg3.out (by simp; exact Nat.le_succ_of_le Hbx.out.size) fun g hg => (HW.out.lt hg).2.1⟩
                    · rw [Htk.out, List.filter_append]
                      have : [z].filter (fun a => decide (a ≠ at_)) = [z] := by simp [hza]
                      rw [this]
                      exact HI3.out
                    · rw [Htk.out]
                      have : at_ ≠ z := fun e => hza e.symm
                      simp [this]
                  case measure => simp [intOf]; omega
              · obtain rfl : j2 = nH := by omega
                have htake : was.take j2 = was := List.take_of_length_le (by rw [← HnH.out]; exact Nat.le_refl _)
                rw [htake] at HW ⊢
                have OF := Lib.hid (OT.out.below Hbx.out)
                have MF := Lib.hid (MT.out.keep (Hbx.out.block gm MT.out.lt))
                have LF := Lib.hid (LT.out.trans (Hbx.out.mono LT.out.size))
                have BF := Lib.hid (BT.out.below Hbx.out BT.out.lt)
                clear OT MT LT BT IT htake b4
                rcases HTold.out with ⟨hin, hnowW⟩ | ⟨hni, hlt3, hnowW⟩ | ⟨hni, heq, X, Y, e0, hXY, he0, hY, hnowW⟩
                · have hd : decide (at_ ∈ was) = true := decide_eq_true hin
                  have WF := HW
                  have HWl : Hid ((was.filter fun a => decide (a ≠ at_)).length ≤ 1000) := by
                    have h1 := List.length_filter_le (fun a => decide (a ≠ at_)) was
                    have := HnH.out
                    have := Hrl.out
                    unfold Hid
                    omega
                  rw [hd]
                  clear HW hin hd
                  go_wp2
                  obtain ⟨ScF, hcF⟩ := OF.out.cache
                  have CF := Lib.hid hcF
                  have HEQ : Hid ((now == [at_] ++ ((was.filter fun a => decide (a ≠ at_)))) = true) := by rw [hnowW]; exact beq_self_eq_true _
                  clear hcF hnowW
                  refine wp_region_held_drew (S := fun u : World => Below wr.heap.size wr u) (by kernel_rfl) (Below.refl _ _).drew (fun hHeld => ?_)
                  refine wpAnyH_take (i := 0) (oi := _) (v := ?_) (by simp only [List.getElem?_toArray, List.getElem?_cons_zero]; rfl) (by kernel_rfl) (by kernel_rfl) (by kernel_rfl) (by exact fun _ _ _ h => h) (Or.inl ⟨by rfl, ?hyfaa0⟩) ((Below.refl _ _).drew) ?refaa0
                  case hyfaa0 => (intro u hSw; have e1 : u.cell? ⟨gb, 1, none⟩ = some (.int .i64 at_) := (BF.out.below hSw BF.out.lt).cell 1; clear hSw; go_simp <;> with_reducible rfl)
                  try simp only [Act.put, List.setIfInBounds_toArray, List.set_cons_zero, List.set_cons_succ]
                  refine wpAnyH_take (i := 2) (oi := _) (v := ?_) (by simp only [List.getElem?_toArray, List.getElem?_cons_succ, List.getElem?_cons_zero]; rfl) (by kernel_rfl) (by kernel_rfl) (by kernel_rfl) (by exact fun _ _ _ h => h) (Or.inl ⟨by rfl, ?hyfaa2⟩) ((Below.refl _ _).drew) ?refaa2
                  case hyfaa2 => (intro u hSw; have e1 : u.cell? ⟨gb, 1, none⟩ = some (.int .i64 at_) := (BF.out.below hSw BF.out.lt).cell 1; clear hSw; go_simp <;> with_reducible rfl)
                  try simp only [Act.put, List.setIfInBounds_toArray, List.set_cons_zero, List.set_cons_succ]
                  refine wpAnyH_take (i := 3) (oi := _) (v := ?_) (by simp only [List.getElem?_toArray, List.getElem?_cons_succ, List.getElem?_cons_zero]; rfl) (by kernel_rfl) (by kernel_rfl) (by kernel_rfl) (by exact fun _ _ _ h => h) (Or.inl ⟨by rfl, ?hyfaa3⟩) ((Below.refl _ _).drew) ?refaa3
                  case hyfaa3 => (intro u hSw; have e1 : u.cell? ⟨gb, 1, none⟩ = some (.int .i64 at_) := (BF.out.below hSw BF.out.lt).cell 1; clear hSw; go_simp <;> with_reducible rfl)
                  try simp only [Act.put, List.setIfInBounds_toArray, List.set_cons_zero, List.set_cons_succ]
                  refine wpAnyH_take (i := 5) (oi := _) (v := ?_) (by simp only [List.getElem?_toArray, List.getElem?_cons_succ, List.getElem?_cons_zero]; rfl) (by kernel_rfl) (by kernel_rfl) (by kernel_rfl) (by exact fun _ _ _ h => h) (Or.inl ⟨by rfl, ?hyfaa5⟩) ((Below.refl _ _).drew) ?refaa5
                  case hyfaa5 => (intro u hSw; have e1 : u.cell? ⟨gb, 1, none⟩ = some (.int .i64 at_) := (BF.out.below hSw BF.out.lt).cell 1; clear hSw; go_simp <;> with_reducible rfl)
                  try simp only [Act.put, List.setIfInBounds_toArray, List.set_cons_zero, List.set_cons_succ]
                  refine wpAnyH_ready (rs := [1, 4]) (by kernel_rfl) (by simp) ?_
                  refine AllReadyH.cons (o := _) (by simp only [List.getElem?_toArray, List.getElem?_cons_succ, List.getElem?_cons_zero]; rfl) (fun K hK => ?_) (AllReadyH.cons (o := _) (by simp only [List.getElem?_toArray, List.getElem?_cons_succ, List.getElem?_cons_zero]; rfl) (fun K hK => ?_) (AllReadyH.nil))
                  · go_simp
                    refine (has_cached (CF.out.below (Below.refl _ _).drew) CT.out.fine.len).mono ?_
                    rintro e w7 ⟨v7, rfl, hI, hb⟩
                    have hT7 : Below wr.heap.size wr w7 := (Below.refl _ wr).drew.trans (hb.mono (Nat.le_refl _))
                    have hI7 : Ints w7 0 v7 now := by rw [Hnow.out]; exact hI.more (Nat.zero_le _)
                    have HT7 := Lib.hid hT7
                    have HI7 := Lib.hid hI7
                    clear hT7 hI7 hI hb
                    go_simp
                    refine hK.out _ _ HT7.out (fun hHeld2 => ?_)
                    refine held_strong (T := fun u => Ints u 0 v7 now ∧ Below wr.heap.size wr u) (by rintro _ ⟨_, h⟩; exact h) _ _ _ _ ?_
                    clear hK K hHeld2
                    refine wpAnyH_ready (rs := [4]) (by kernel_rfl) (by simp) ?_
                    refine AllReadyH.cons (o := _) (by simp only [List.getElem?_toArray, List.getElem?_cons_succ, List.getElem?_cons_zero]; rfl) (fun K hK => ?_) AllReadyH.nil
                    go_simp
                    have hbz : Below w7.heap.size w7 (w7.alloc (.cells #[.int .i64 at_] 3)) := (Below.refl _ _).alloc (Nat.le_refl _) _
                    have hJ : Ints (w7.alloc (.cells #[.int .i64 at_] 3)) 0 (.slice (some ⟨w7.heap.size, 0, none⟩) 1 1) [at_] := ints_one w7 0 at_ (Nat.zero_le _)
                    have hT : Ints (w7.alloc (.cells #[.int .i64 at_] 3)) 0 v7 now ∧ Below wr.heap.size wr (w7.alloc (.cells #[.int .i64 at_] 3)) := ⟨HI7.out.below hbz, HT7.out.trans (hbz.mono HT7.out.size)⟩
                    have hne : ∀ g, v7.ownBlock = some g → w7.heap.size ≠ g := fun g hg e => by have := (HI7.out.lt hg).1; omega
                    have HJ := Lib.hid hJ
                    have HT := Lib.hid hT
                    have Hne := Lib.hid hne
                    have Hgq : Hid (wr.heap.size ≤ w7.heap.size) := HT7.out.size
                    clear hbz hJ hT hne
                    refine hK.out _ _ HT.out (fun hHeld2 => ?_)
                    clear hK K hHeld2
                    obtain ⟨gq, hgq⟩ : ∃ gq, gq = w7.heap.size := ⟨_, rfl⟩
                    rw [← hgq] at HJ Hne Hgq ⊢
                    generalize w7.alloc (.cells #[.int .i64 at_] 3) = w8 at *
                    clear hgq
                    refine wpAnyH_ready (rs := [6]) (by kernel_rfl) (by simp) ?_
                    refine AllReadyH.cons (o := _) (by simp only [List.getElem?_toArray, List.getElem?_cons_succ, List.getElem?_cons_zero]; rfl) (fun K hK => ?_) AllReadyH.nil
                    refine wp_app (.tmp 156) (.tmp 157) rfl 0 _ [at_] rfl HJ.out _ ((was.filter fun a => decide (a ≠ at_))) rfl (WF.out.below HT.out.2).reads (by simp only [List.length_cons, List.length_nil]; have := HWl.out; omega) (Nat.zero_le _) ?_
                    intro v9 w9 hI9 hg9
                    have hT9 : Ints w9 0 v7 now ∧ Below wr.heap.size wr w9 := ⟨HT.out.1.keep fun g hg => hg9.block g (HT.out.1.lt hg).1 fun e => by injection e with e; exact Hne.out g hg e.symm, HT.out.2.grown hg9 HT.out.2.size fun t ht => by cases ht; exact Hgq.out⟩
                    have HT9 := Lib.hid hT9
                    have HI9 := Lib.hid hI9
                    clear hT9 hI9 hg9
                    refine hK.out _ _ HT9.out (fun hHeld3 => ?_)
                    clear hK K hHeld3
                    refine wpAnyH_ready (rs := [7]) (by kernel_rfl) (by simp) ?_
                    refine AllReadyH.cons (o := _) (by simp only [List.getElem?_toArray, List.getElem?_cons_succ, List.getElem?_cons_zero]; rfl) (fun K hK => ?_) AllReadyH.nil
                    go_simp
                    refine (same_ints HT9.out.1 HI9.out).mono ?_
                    rintro e w10 ⟨rfl, hb⟩
                    have hT10 : Ints w10 0 v7 now ∧ Below wr.heap.size wr w10 := ⟨HT9.out.1.below hb, HT9.out.2.trans (hb.mono HT9.out.2.size)⟩
                    have HT10 := Lib.hid hT10
                    clear hT10 hb
                    rw [HEQ.out]
                    go_simp
                    refine hK.out _ _ HT10.out (fun hHeld3 => ?_)
                    clear hK K hHeld3
                    refine wpAnyH_take (i := 8) (oi := _) (v := ?_) (by simp only [List.getElem?_toArray, List.getElem?_cons_succ, List.getElem?_cons_zero]; rfl) (by kernel_rfl) (by kernel_rfl) (by kernel_rfl) (by exact fun _ _ _ h => h) (Or.inl ⟨by rfl, ?hyfaap8⟩) (HT10.out) ?refaap8
                    case hyfaap8 => (intro u hSw; clear hSw; go_simp <;> with_reducible rfl)
                    try simp only [Act.put, List.setIfInBounds_toArray, List.set_cons_zero, List.set_cons_succ]
                    refine wpAnyH_done (by kernel_rfl) ?_ _
                    go_wp2
                    go_roundw
                    case rel => exact ⟨j + 1, V, L', k', S', pn, pt, m2, by omega, by go_num, OF.out.below HT10.out.2, CT.out, MF.out.keep (HT10.out.2.block gm MF.out.lt), HPT.out, by omega, NT.out, LF.out.trans (HT10.out.2.mono LF.out.size)⟩
                    case measure => simp [intOf]; omega
                  · go_simp
                    have hbz : Below wr.heap.size wr ((wr.alloc (.cells #[.int .i64 at_] 3)).drew) := ((Below.refl _ _).alloc (Nat.le_refl _) _).drew
                    have hJ : Ints ((wr.alloc (.cells #[.int .i64 at_] 3)).drew) 0 (.slice (some ⟨wr.heap.size, 0, none⟩) 1 1) [at_] := (ints_one _ 0 at_ (Nat.zero_le _)).below (Below.refl _ _).drew
                    have HJ0 := Lib.hid hJ
                    have HT0 := Lib.hid hbz
                    have Hgq : Hid (wr.heap.size ≤ wr.heap.size) := Nat.le_refl _
                    have hgl : wr.heap.size < ((wr.alloc (.cells #[.int .i64 at_] 3)).drew).heap.size := by simp
                    clear hbz hJ
                    refine hK.out _ _ HT0.out (fun hHeld2 => ?_)
                    clear hK K hHeld2
                    have Hgl := Lib.hid hgl
                    clear hgl
                    generalize (wr.alloc (.cells #[.int .i64 at_] 3)).drew = w7 at *
                    refine wpAnyH_ready (rs := [1]) (by kernel_rfl) (by simp) ?_
                    refine AllReadyH.cons (o := _) (by simp only [List.getElem?_toArray, List.getElem?_cons_succ, List.getElem?_cons_zero]; rfl) (fun K hK => ?_) AllReadyH.nil
                    go_simp
                    refine (has_cached (CF.out.below HT0.out) CT.out.fine.len).mono ?_
                    rintro e w8 ⟨v7, rfl, hI, hb⟩
                    have hT : Ints w8 0 v7 now ∧ Below wr.heap.size wr w8 := ⟨by rw [Hnow.out]; exact hI.more (Nat.zero_le _), HT0.out.trans (hb.mono HT0.out.size)⟩
                    have hne : ∀ g, v7.ownBlock = some g → wr.heap.size ≠ g := fun g hg e => by have := (hI.lt hg).2.1; have := Hgl.out; omega
                    have HT := Lib.hid hT
                    have Hne := Lib.hid hne
                    have HJ := Lib.hid (HJ0.out.below hb)
                    clear hI hb hT hne HJ0 HT0
                    go_simp
                    refine hK.out _ _ HT.out.2 (fun hHeld2 => ?_)
                    refine held_strong (T := fun u => Ints u 0 v7 now ∧ Below wr.heap.size wr u) (by rintro _ ⟨_, h⟩; exact h) _ _ _ _ ?_
                    clear hK K hHeld2
                    refine wpAnyH_ready (rs := [6]) (by kernel_rfl) (by simp) ?_
                    refine AllReadyH.cons (o := _) (by simp only [List.getElem?_toArray, List.getElem?_cons_succ, List.getElem?_cons_zero]; rfl) (fun K hK => ?_) AllReadyH.nil
                    refine wp_app (.tmp 156) (.tmp 157) rfl 0 _ [at_] rfl HJ.out _ ((was.filter fun a => decide (a ≠ at_))) rfl (WF.out.below HT.out.2).reads (by simp only [List.length_cons, List.length_nil]; have := HWl.out; omega) (Nat.zero_le _) ?_
                    intro v9 w9 hI9 hg9
                    have hT9 : Ints w9 0 v7 now ∧ Below wr.heap.size wr w9 := ⟨HT.out.1.keep fun g hg => hg9.block g (HT.out.1.lt hg).1 fun e => by injection e with e; exact Hne.out g hg e.symm, HT.out.2.grown hg9 HT.out.2.size fun t ht => by cases ht; exact Hgq.out⟩
                    have HT9 := Lib.hid hT9
                    have HI9 := Lib.hid hI9
                    clear hT9 hI9 hg9
                    refine hK.out _ _ HT9.out (fun hHeld3 => ?_)
                    clear hK K hHeld3
                    refine wpAnyH_ready (rs := [7]) (by kernel_rfl) (by simp) ?_
                    refine AllReadyH.cons (o := _) (by simp only [List.getElem?_toArray, List.getElem?_cons_succ, List.getElem?_cons_zero]; rfl) (fun K hK => ?_) AllReadyH.nil
                    go_simp
                    refine (same_ints HT9.out.1 HI9.out).mono ?_
                    rintro e w10 ⟨rfl, hb⟩
                    have hT10 : Ints w10 0 v7 now ∧ Below wr.heap.size wr w10 := ⟨HT9.out.1.below hb, HT9.out.2.trans (hb.mono HT9.out.2.size)⟩
                    have HT10 := Lib.hid hT10
                    clear hT10 hb
                    rw [HEQ.out]
                    go_simp
                    refine hK.out _ _ HT10.out (fun hHeld3 => ?_)
                    clear hK K hHeld3
                    refine wpAnyH_take (i := 8) (oi := _) (v := ?_) (by simp only [List.getElem?_toArray, List.getElem?_cons_succ, List.getElem?_cons_zero]; rfl) (by kernel_rfl) (by kernel_rfl) (by kernel_rfl) (by exact fun _ _ _ h => h) (Or.inl ⟨by rfl, ?hyfaaq8⟩) (HT10.out) ?refaaq8
                    case hyfaaq8 => (intro u hSw; clear hSw; go_simp <;> with_reducible rfl)
                    try simp only [Act.put, List.setIfInBounds_toArray, List.set_cons_zero, List.set_cons_succ]
                    refine wpAnyH_done (by kernel_rfl) ?_ _
                    go_wp2
                    go_roundw
                    case rel => exact ⟨j + 1, V, L', k', S', pn, pt, m2, by omega, by go_num, OF.out.below HT10.out.2, CT.out, MF.out.keep (HT10.out.2.block gm MF.out.lt), HPT.out, by omega, NT.out, LF.out.trans (HT10.out.2.mono LF.out.size)⟩
                    case measure => simp [intOf]; omega
                · have hd : decide (at_ ∈ was) = false := decide_eq_false hni
                  have hf : was.filter (fun a => decide (a ≠ at_)) = was := List.filter_eq_self.2 fun a ha => by
                    have : a ≠ at_ := fun e => hni (e ▸ ha)
                    simp [this]
                  have hjrm : ¬ ((j2 : Int) = (rm : Int)) := by have := HnH.out; omega
                  have HWl : Hid (was.length ≤ 1000) := by have := HnH.out; have := Hrl.out; unfold Hid; omega
                  rw [hf] at HW
                  have WF := HW
                  rw [hd]
                  clear HW hni hd hf
                  go_wp2
                  obtain ⟨ScF, hcF⟩ := OF.out.cache
                  have CF := Lib.hid hcF
                  have HEQ : Hid ((now == [at_] ++ (was)) = true) := by rw [hnowW]; exact beq_self_eq_true _
                  clear hcF hnowW
                  refine wp_region_held_drew (S := fun u : World => Below wr.heap.size wr u) (by kernel_rfl) (Below.refl _ _).drew (fun hHeld => ?_)
                  refine wpAnyH_take (i := 0) (oi := _) (v := ?_) (by simp only [List.getElem?_toArray, List.getElem?_cons_zero]; rfl) (by kernel_rfl) (by kernel_rfl) (by kernel_rfl) (by exact fun _ _ _ h => h) (Or.inl ⟨by rfl, ?hyfab0⟩) ((Below.refl _ _).drew) ?refab0
                  case hyfab0 => (intro u hSw; have e1 : u.cell? ⟨gb, 1, none⟩ = some (.int .i64 at_) := (BF.out.below hSw BF.out.lt).cell 1; clear hSw; go_simp <;> with_reducible rfl)
                  try simp only [Act.put, List.setIfInBounds_toArray, List.set_cons_zero, List.set_cons_succ]
                  refine wpAnyH_take (i := 2) (oi := _) (v := ?_) (by simp only [List.getElem?_toArray, List.getElem?_cons_succ, List.getElem?_cons_zero]; rfl) (by kernel_rfl) (by kernel_rfl) (by kernel_rfl) (by exact fun _ _ _ h => h) (Or.inl ⟨by rfl, ?hyfab2⟩) ((Below.refl _ _).drew) ?refab2
                  case hyfab2 => (intro u hSw; have e1 : u.cell? ⟨gb, 1, none⟩ = some (.int .i64 at_) := (BF.out.below hSw BF.out.lt).cell 1; clear hSw; go_simp <;> with_reducible rfl)
                  try simp only [Act.put, List.setIfInBounds_toArray, List.set_cons_zero, List.set_cons_succ]
                  refine wpAnyH_take (i := 3) (oi := _) (v := ?_) (by simp only [List.getElem?_toArray, List.getElem?_cons_succ, List.getElem?_cons_zero]; rfl) (by kernel_rfl) (by kernel_rfl) (by kernel_rfl) (by exact fun _ _ _ h => h) (Or.inl ⟨by rfl, ?hyfab3⟩) ((Below.refl _ _).drew) ?refab3
                  case hyfab3 => (intro u hSw; have e1 : u.cell? ⟨gb, 1, none⟩ = some (.int .i64 at_) := (BF.out.below hSw BF.out.lt).cell 1; clear hSw; go_simp <;> with_reducible rfl)
                  try simp only [Act.put, List.setIfInBounds_toArray, List.set_cons_zero, List.set_cons_succ]
                  refine wpAnyH_take (i := 5) (oi := _) (v := ?_) (by simp only [List.getElem?_toArray, List.getElem?_cons_succ, List.getElem?_cons_zero]; rfl) (by kernel_rfl) (by kernel_rfl) (by kernel_rfl) (by exact fun _ _ _ h => h) (Or.inl ⟨by rfl, ?hyfab5⟩) ((Below.refl _ _).drew) ?refab5
                  case hyfab5 => (intro u hSw; have e1 : u.cell? ⟨gb, 1, none⟩ = some (.int .i64 at_) := (BF.out.below hSw BF.out.lt).cell 1; clear hSw; go_simp <;> with_reducible rfl)
                  try simp only [Act.put, List.setIfInBounds_toArray, List.set_cons_zero, List.set_cons_succ]
                  refine wpAnyH_ready (rs := [1, 4]) (by kernel_rfl) (by simp) ?_
                  refine AllReadyH.cons (o := _) (by simp only [List.getElem?_toArray, List.getElem?_cons_succ, List.getElem?_cons_zero]; rfl) (fun K hK => ?_) (AllReadyH.cons (o := _) (by simp only [List.getElem?_toArray, List.getElem?_cons_succ, List.getElem?_cons_zero]; rfl) (fun K hK => ?_) (AllReadyH.nil))
                  · go_simp
                    refine (has_cached (CF.out.below (Below.refl _ _).drew) CT.out.fine.len).mono ?_
                    rintro e w7 ⟨v7, rfl, hI, hb⟩
                    have hT7 : Below wr.heap.size wr w7 := (Below.refl _ wr).drew.trans (hb.mono (Nat.le_refl _))
                    have hI7 : Ints w7 0 v7 now := by rw [Hnow.out]; exact hI.more (Nat.zero_le _)
                    have HT7 := Lib.hid hT7
                    have HI7 := Lib.hid hI7
                    clear hT7 hI7 hI hb
                    go_simp
                    refine hK.out _ _ HT7.out (fun hHeld2 => ?_)
                    refine held_strong (T := fun u => Ints u 0 v7 now ∧ Below wr.heap.size wr u) (by rintro _ ⟨_, h⟩; exact h) _ _ _ _ ?_
                    clear hK K hHeld2
                    refine wpAnyH_ready (rs := [4]) (by kernel_rfl) (by simp) ?_
                    refine AllReadyH.cons (o := _) (by simp only [List.getElem?_toArray, List.getElem?_cons_succ, List.getElem?_cons_zero]; rfl) (fun K hK => ?_) AllReadyH.nil
                    go_simp
                    have hbz : Below w7.heap.size w7 (w7.alloc (.cells #[.int .i64 at_] 3)) := (Below.refl _ _).alloc (Nat.le_refl _) _
                    have hJ : Ints (w7.alloc (.cells #[.int .i64 at_] 3)) 0 (.slice (some ⟨w7.heap.size, 0, none⟩) 1 1) [at_] := ints_one w7 0 at_ (Nat.zero_le _)
                    have hT : Ints (w7.alloc (.cells #[.int .i64 at_] 3)) 0 v7 now ∧ Below wr.heap.size wr (w7.alloc (.cells #[.int .i64 at_] 3)) := ⟨HI7.out.below hbz, HT7.out.trans (hbz.mono HT7.out.size)⟩
                    have hne : ∀ g, v7.ownBlock = some g → w7.heap.size ≠ g := fun g hg e => by have := (HI7.out.lt hg).1; omega
                    have HJ := Lib.hid hJ
                    have HT := Lib.hid hT
                    have Hne := Lib.hid hne
                    have Hgq : Hid (wr.heap.size ≤ w7.heap.size) := HT7.out.size
                    clear hbz hJ hT hne
                    refine hK.out _ _ HT.out (fun hHeld2 => ?_)
                    clear hK K hHeld2
                    obtain ⟨gq, hgq⟩ : ∃ gq, gq = w7.heap.size := ⟨_, rfl⟩
                    rw [← hgq] at HJ Hne Hgq ⊢
                    generalize w7.alloc (.cells #[.int .i64 at_] 3) = w8 at *
                    clear hgq
                    refine wpAnyH_ready (rs := [6]) (by kernel_rfl) (by simp) ?_
                    refine AllReadyH.cons (o := _) (by simp only [List.getElem?_toArray, List.getElem?_cons_succ, List.getElem?_cons_zero]; rfl) (fun K hK => ?_) AllReadyH.nil
                    refine wp_app (.tmp 156) (.tmp 157) rfl 0 _ [at_] rfl HJ.out _ (was) rfl (WF.out.below HT.out.2).reads (by simp only [List.length_cons, List.length_nil]; have := HWl.out; omega) (Nat.zero_le _) ?_
                    intro v9 w9 hI9 hg9
                    have hT9 : Ints w9 0 v7 now ∧ Below wr.heap.size wr w9 := ⟨HT.out.1.keep fun g hg => hg9.block g (HT.out.1.lt hg).1 fun e => by injection e with e; exact Hne.out g hg e.symm, HT.out.2.grown hg9 HT.out.2.size fun t ht => by cases ht; exact Hgq.out⟩
                    have HT9 := Lib.hid hT9
                    have HI9 := Lib.hid hI9
                    clear hT9 hI9 hg9
                    refine hK.out _ _ HT9.out (fun hHeld3 => ?_)
                    clear hK K hHeld3
                    refine wpAnyH_ready (rs := [7]) (by kernel_rfl) (by simp) ?_
                    refine AllReadyH.cons (o := _) (by simp only [List.getElem?_toArray, List.getElem?_cons_succ, List.getElem?_cons_zero]; rfl) (fun K hK => ?_) AllReadyH.nil
                    go_simp
                    refine (same_ints HT9.out.1 HI9.out).mono ?_
                    rintro e w10 ⟨rfl, hb⟩
                    have hT10 : Ints w10 0 v7 now ∧ Below wr.heap.size wr w10 := ⟨HT9.out.1.below hb, HT9.out.2.trans (hb.mono HT9.out.2.size)⟩
                    have HT10 := Lib.hid hT10
                    clear hT10 hb
                    rw [HEQ.out]
                    go_simp
                    refine hK.out _ _ HT10.out (fun hHeld3 => ?_)
                    clear hK K hHeld3
                    refine wpAnyH_take (i := 8) (oi := _) (v := ?_) (by simp only [List.getElem?_toArray, List.getElem?_cons_succ, List.getElem?_cons_zero]; rfl) (by kernel_rfl) (by kernel_rfl) (by kernel_rfl) (by exact fun _ _ _ h => h) (Or.inl ⟨by rfl, ?hyfabp8⟩) (HT10.out) ?refabp8
                    case hyfabp8 => (intro u hSw; clear hSw; go_simp <;> with_reducible rfl)
                    try simp only [Act.put, List.setIfInBounds_toArray, List.set_cons_zero, List.set_cons_succ]
                    refine wpAnyH_done (by kernel_rfl) ?_ _
                    go_wp2
                    go_roundw
                    case rel => exact ⟨j + 1, V, L', k', S', pn, pt, m2, by omega, by go_num, OF.out.below HT10.out.2, CT.out, MF.out.keep (HT10.out.2.block gm MF.out.lt), HPT.out, by omega, NT.out, LF.out.trans (HT10.out.2.mono LF.out.size)⟩
                    case measure => simp [intOf]; omega
                  · go_simp
                    have hbz : Below wr.heap.size wr ((wr.alloc (.cells #[.int .i64 at_] 3)).drew) := ((Below.refl _ _).alloc (Nat.le_refl _) _).drew
                    have hJ : Ints ((wr.alloc (.cells #[.int .i64 at_] 3)).drew) 0 (.slice (some ⟨wr.heap.size, 0, none⟩) 1 1) [at_] := (ints_one _ 0 at_ (Nat.zero_le _)).below (Below.refl _ _).drew
                    have HJ0 := Lib.hid hJ
                    have HT0 := Lib.hid hbz
                    have Hgq : Hid (wr.heap.size ≤ wr.heap.size) := Nat.le_refl _
                    have hgl : wr.heap.size < ((wr.alloc (.cells #[.int .i64 at_] 3)).drew).heap.size := by simp
                    clear hbz hJ
                    refine hK.out _ _ HT0.out (fun hHeld2 => ?_)
                    clear hK K hHeld2
                    have Hgl := Lib.hid hgl
                    clear hgl
                    generalize (wr.alloc (.cells #[.int .i64 at_] 3)).drew = w7 at *
                    refine wpAnyH_ready (rs := [1]) (by kernel_rfl) (by simp) ?_
                    refine AllReadyH.cons (o := _) (by simp only [List.getElem?_toArray, List.getElem?_cons_succ, List.getElem?_cons_zero]; rfl) (fun K hK => ?_) AllReadyH.nil
                    go_simp
                    refine (has_cached (CF.out.below HT0.out) CT.out.fine.len).mono ?_
                    rintro e w8 ⟨v7, rfl, hI, hb⟩
                    have hT : Ints w8 0 v7 now ∧ Below wr.heap.size wr w8 := ⟨by rw [Hnow.out]; exact hI.more (Nat.zero_le _), HT0.out.trans (hb.mono HT0.out.size)⟩
                    have hne : ∀ g, v7.ownBlock = some g → wr.heap.size ≠ g := fun g hg e => by have := (hI.lt hg).2.1; have := Hgl.out; omega
                    have HT := Lib.hid hT
                    have Hne := Lib.hid hne
                    have HJ := Lib.hid (HJ0.out.below hb)
                    clear hI hb hT hne HJ0 HT0
                    go_simp
                    refine hK.out _ _ HT.out.2 (fun hHeld2 => ?_)
                    refine held_strong (T := fun u => Ints u 0 v7 now ∧ Below wr.heap.size wr u) (by rintro _ ⟨_, h⟩; exact h) _ _ _ _ ?_
                    clear hK K hHeld2
                    refine wpAnyH_ready (rs := [6]) (by kernel_rfl) (by simp) ?_
                    refine AllReadyH.cons (o := _) (by simp only [List.getElem?_toArray, List.getElem?_cons_succ, List.getElem?_cons_zero]; rfl) (fun K hK => ?_) AllReadyH.nil
                    refine wp_app (.tmp 156) (.tmp 157) rfl 0 _ [at_] rfl HJ.out _ (was) rfl (WF.out.below HT.out.2).reads (by simp only [List.length_cons, List.length_nil]; have := HWl.out; omega) (Nat.zero_le _) ?_
                    intro v9 w9 hI9 hg9
                    have hT9 : Ints w9 0 v7 now ∧ Below wr.heap.size wr w9 := ⟨HT.out.1.keep fun g hg => hg9.block g (HT.out.1.lt hg).1 fun e => by injection e with e; exact Hne.out g hg e.symm, HT.out.2.grown hg9 HT.out.2.size fun t ht => by cases ht; exact Hgq.out⟩
                    have HT9 := Lib.hid hT9
                    have HI9 := Lib.hid hI9
                    clear hT9 hI9 hg9
                    refine hK.out _ _ HT9.out (fun hHeld3 => ?_)
                    clear hK K hHeld3
                    refine wpAnyH_ready (rs := [7]) (by kernel_rfl) (by simp) ?_
                    refine AllReadyH.cons (o := _) (by simp only [List.getElem?_toArray, List.getElem?_cons_succ, List.getElem?_cons_zero]; rfl) (fun K hK => ?_) AllReadyH.nil
                    go_simp
                    refine (same_ints HT9.out.1 HI9.out).mono ?_
                    rintro e w10 ⟨rfl, hb⟩
                    have hT10 : Ints w10 0 v7 now ∧ Below wr.heap.size wr w10 := ⟨HT9.out.1.below hb, HT9.out.2.trans (hb.mono HT9.out.2.size)⟩
                    have HT10 := Lib.hid hT10
                    clear hT10 hb
                    rw [HEQ.out]
                    go_simp
                    refine hK.out _ _ HT10.out (fun hHeld3 => ?_)
                    clear hK K hHeld3
                    refine wpAnyH_take (i := 8) (oi := _) (v := ?_) (by simp only [List.getElem?_toArray, List.getElem?_cons_succ, List.getElem?_cons_zero]; rfl) (by kernel_rfl) (by kernel_rfl) (by kernel_rfl) (by exact fun _ _ _ h => h) (Or.inl ⟨by rfl, ?hyfabq8⟩) (HT10.out) ?refabq8
                    case hyfabq8 => (intro u hSw; clear hSw; go_simp <;> with_reducible rfl)
                    try simp only [Act.put, List.setIfInBounds_toArray, List.set_cons_zero, List.set_cons_succ]
                    refine wpAnyH_done (by kernel_rfl) ?_ _
                    go_wp2
                    go_roundw
                    case rel => exact ⟨j + 1, V, L', k', S', pn, pt, m2, by omega, by go_num, OF.out.below HT10.out.2, CT.out, MF.out.keep (HT10.out.2.block gm MF.out.lt), HPT.out, by omega, NT.out, LF.out.trans (HT10.out.2.mono LF.out.size)⟩
                    case measure => simp [intOf]; omega
                · have hd : decide (at_ ∈ was) = false := decide_eq_false hni
                  have hf : was.filter (fun a => decide (a ≠ at_)) = was := List.filter_eq_self.2 fun a ha => by
                    have : a ≠ at_ := fun e => hni (e ▸ ha)
                    simp [this]
                  rw [hf] at HW
                  rw [hd]
                  clear hni hd hf
                  have hpos : 0 < was.length := by rw [hXY, List.length_append, List.length_cons]; omega
                  obtain ⟨gw, cw', hu, -, -⟩ := HW.out.get hpos
                  clear hpos
                  have hcells : ∀ i, (hi : i < was.length) → wr.cell? ⟨gw, i, none⟩ = some (.int .i64 was[i]) := fun i hi => by
                    obtain ⟨g', c', e1, h1, _⟩ := HW.out.get hi
                    rw [hu] at e1
                    injection e1 with e1
                    injection e1 with e1
                    injection e1 with e1
                    subst e1
                    exact h1
                  rw [← HnH.out] at hu
                  subst hu
                  obtain ⟨Ax, cx, hcw1, hcw2, hcw3⟩ := HW.out.len
                  obtain rfl : cw' = cx := by injection hcw1
                  rw [← HnH.out] at hcw2
                  clear hcw1
                  unfold maxLen at hcw3
                  obtain ⟨x0, hx0⟩ : ∃ x0, x0 = X.length := ⟨_, rfl⟩
                  obtain ⟨y0, hy0⟩ : ∃ y0, y0 = Y.length := ⟨_, rfl⟩
                  have hj2 : j2 = x0 + 1 + y0 := by rw [HnH.out, hXY, hx0, hy0]; simp; omega
                  have HY : Hid (∀ p, p < y0 → ∃ y, wr.cell? ⟨gw, x0 + (p + 1), none⟩ = some (.int .i64 y) ∧ 0 < pn y ∧ I64 y) := fun p hp => by
                    have hl : x0 + (p + 1) < was.length := by rw [← HnH.out]; omega
                    have hpy : p < Y.length := by omega
                    refine ⟨was[x0 + (p + 1)], hcells _ hl, ?_⟩
                    have e1 : was[x0 + (p + 1)] = Y[p] := by
                      have : was[x0 + (p + 1)]? = some Y[p] := by
                        rw [hXY, hx0, List.getElem?_append_right (by omega)]
                        have : X.length + (p + 1) - X.length = p + 1 := by omega
                        rw [this, List.getElem?_cons_succ, List.getElem?_eq_getElem hpy]
                      rw [List.getElem?_eq_getElem hl] at this
                      injection this
                    exact ⟨by rw [e1]; exact hY _ (List.getElem_mem hpy), HwI.out _ (List.getElem_mem hl)⟩
                  have HE : Hid (wr.cell? ⟨gw, x0, none⟩ = some (.int .i64 e0) ∧ I64 e0) := by
                    have hl : x0 < was.length := by rw [← HnH.out]; omega
                    have e1 : was[x0] = e0 := by
                      have : was[x0]? = some e0 := by rw [hXY, hx0, List.getElem?_append_right (by omega), Nat.sub_self]; rfl
                      rw [List.getElem?_eq_getElem hl] at this
                      injection this
                    exact ⟨e1 ▸ hcells _ hl, e1 ▸ HwI.out _ (List.getElem_mem hl)⟩
                  have HXY := Lib.hid hXY
                  have Hx0 := Lib.hid hx0
                  have He0 := Lib.hid he0
                  obtain rfl : j2 = rm := by have := HnH.out; omega
                  obtain ⟨s0, hs0⟩ : ∃ s0, s0 = x0 + y0 := ⟨_, rfl⟩
                  have hw2 : wrap64 ((j2 : Int) - 1) = (s0 : Int) := by unfold wrap64; omega
                  have hst2 : (j2 : Int) - 1 = (s0 : Int) := by omega
                  have Hs0 := Lib.hid hs0
                  obtain ⟨x1, hx1⟩ : ∃ x1, x1 = x0 + 1 := ⟨_, rfl⟩
                  have HX : Hid (wrap64 ((x0 : Int) + 1) = (x1 : Int) ∧ (x0 : Int) + 1 = (x1 : Int) ∧ x0 ≤ cw' ∧ IntKind.i64.wrap (x1 : Int) = (x1 : Int) ∧ x1 ≤ j2) := by
                    have e1 : x0 ≤ cw' := by omega
                    have e2 : x1 ≤ j2 := by omega
                    have e3 : (x1 : Int) ≤ 9223372036854775807 := by omega
                    refine ⟨by unfold wrap64; omega, by omega, e1, ?_, e2⟩
                    rw [IntKind.wrap_i64]
                    omega
                  have HRX : Hid (∀ u, Below wr.heap.size wr u → Reads u (.slice (some ⟨gw, 0, none⟩) x0 cw') X) := fun u hb => by
                    have h1 := (HW.out.below hb).part HnH.out 0 x0 (Nat.zero_le _) (by omega) cw' x0 rfl
                    have e : (was.take x0).drop 0 = X := by rw [hXY, hx0]; simp
                    rwa [e] at h1
                  have HRY : Hid (∀ u, Below wr.heap.size wr u → Reads u (.slice (if cw' = x1 then some ⟨gw, 0, none⟩ else some ⟨gw, x1, none⟩) (j2 - x1) (cw' - x1)) Y) := fun u hb => by
                    split
                    · have hY0 : Y = [] := List.length_eq_zero_iff.1 (by omega)
                      have h0 : j2 - x1 = 0 := by omega
                      rw [h0, hY0]
                      exact .inr ⟨gw, 0, _, rfl, fun j hj => absurd hj (Nat.not_lt_zero _)⟩
                    · have h1 := (HW.out.below hb).part HnH.out x1 j2 (by omega) (Nat.le_refl _) (cw' - x1) (j2 - x1) rfl
                      have e : (was.take j2).drop x1 = Y := by
                        rw [List.take_of_length_le (by rw [← HnH.out]; exact Nat.le_refl _), hXY, hx1, hx0, ← List.drop_drop, List.drop_left]
                        rfl
                      rwa [e] at h1
                  have HWl : Hid ((X ++ Y).length ≤ 1000) := by unfold Hid; rw [List.length_append]; have := Hrl.out; omega
                  have Hx1 := Lib.hid hx1
                  clear hx1
                  have Hj2 := Lib.hid hj2
                  have HnowW := Lib.hid hnowW
                  clear hcells hXY hx0 hy0 he0 hY hnowW hs0 hj2
                  go_wp2
                  go_loopw [21] (fun i wx => ∃ p q1 : Nat, p ≤ y0 ∧ q1 = x0 + p ∧ i = .int .i64 (q1 : Int) ∧ wx = wr) (fun i _ => (intOf i).toNat)
                  case atStart => exact ⟨y0, s0, Nat.le_refl _, Hs0.out, by first | trivial | rfl | exact congrArg (Value.int .i64) hst2, rfl⟩
                  case round =>
                    obtain ⟨p, q1, hp, hq1, rfl, rfl⟩ := hrel
                    have Hq1 := Lib.hid hq1
                    have hge : ¬ ((q1 : Int) < 0) := by omega
                    have hlt5 : q1 < j2 := by have := Hj2.out; omega
                    have hlt4 : (q1 : Int) < (j2 : Int) := by omega
                    clear hq1
                    rcases Nat.eq_zero_or_pos p with rfl | hpp
                    · obtain rfl : x0 = q1 := Hq1.out.symm
                      have hE := HE.out.1
                      have hlk := (MF.out.look intE Try.underlying54 HE.out.2).1
                      rw [He0.out] at hlk
                      go_wp2
                      obtain ⟨hp1, hp2, hxc, hwx, hx1j⟩ := HX.out
                      refine wp_region_held_drew (S := fun u : World => Below wr.heap.size wr u) (by kernel_rfl) (Below.refl _ _).drew (fun hHeld => ?_)
                      refine wpAnyH_take (i := 1) (oi := _) (v := ?_) (by simp only [List.getElem?_toArray, List.getElem?_cons_succ, List.getElem?_cons_zero]; rfl) (by kernel_rfl) (by kernel_rfl) (by kernel_rfl) (by exact fun _ _ _ h => h) (Or.inl ⟨by rfl, ?hyra1⟩) ((Below.refl _ _).drew) ?rera1
                      case hyra1 => (intro u hSw; clear hSw; go_simp <;> with_reducible rfl)
                      try simp only [Act.put, List.setIfInBounds_toArray, List.set_cons_zero, List.set_cons_succ]
                      refine wpAnyH_take (i := 2) (oi := _) (v := ?_) (by simp only [List.getElem?_toArray, List.getElem?_cons_succ, List.getElem?_cons_zero]; rfl) (by kernel_rfl) (by kernel_rfl) (by kernel_rfl) (by exact fun _ _ _ h => h) (Or.inl ⟨by rfl, ?hyra2⟩) ((Below.refl _ _).drew) ?rera2
                      case hyra2 => (intro u hSw; clear hSw; go_simp <;> with_reducible rfl)
                      try simp only [Act.put, List.setIfInBounds_toArray, List.set_cons_zero, List.set_cons_succ]
                      refine wpAnyH_take (i := 3) (oi := _) (v := ?_) (by simp only [List.getElem?_toArray, List.getElem?_cons_succ, List.getElem?_cons_zero]; rfl) (by kernel_rfl) (by kernel_rfl) (by kernel_rfl) (by exact fun _ _ _ h => h) (Or.inl ⟨by rfl, ?hyra3⟩) ((Below.refl _ _).drew) ?rera3
                      case hyra3 => (intro u hSw; clear hSw; go_simp <;> with_reducible rfl)
                      try simp only [Act.put, List.setIfInBounds_toArray, List.set_cons_zero, List.set_cons_succ]
                      refine wpAnyH_take (i := 5) (oi := _) (v := ?_) (by simp only [List.getElem?_toArray, List.getElem?_cons_succ, List.getElem?_cons_zero]; rfl) (by kernel_rfl) (by kernel_rfl) (by kernel_rfl) (by exact fun _ _ _ h => h) (Or.inl ⟨by rfl, ?hyra5⟩) ((Below.refl _ _).drew) ?rera5
                      case hyra5 => (intro u hSw; clear hSw; go_simp <;> with_reducible rfl)
                      try simp only [Act.put, List.setIfInBounds_toArray, List.set_cons_zero, List.set_cons_succ]
                      refine wpAnyH_take (i := 6) (oi := _) (v := ?_) (by simp only [List.getElem?_toArray, List.getElem?_cons_succ, List.getElem?_cons_zero]; rfl) (by kernel_rfl) (by kernel_rfl) (by kernel_rfl) (by exact fun _ _ _ h => h) (Or.inl ⟨by rfl, ?hyra6⟩) ((Below.refl _ _).drew) ?rera6
                      case hyra6 => (intro u hSw; clear hSw; go_simp <;> with_reducible rfl)
                      try simp only [Act.put, List.setIfInBounds_toArray, List.set_cons_zero, List.set_cons_succ]
                      refine wpAnyH_take (i := 7) (oi := _) (v := ?_) (by simp only [List.getElem?_toArray, List.getElem?_cons_succ, List.getElem?_cons_zero]; rfl) (by kernel_rfl) (by kernel_rfl) (by kernel_rfl) (by exact fun _ _ _ h => h) (Or.inl ⟨by rfl, ?hyra7⟩) ((Below.refl _ _).drew) ?rera7
                      case hyra7 => (intro u hSw; clear hSw; go_simp <;> with_reducible rfl)
                      try simp only [Act.put, List.setIfInBounds_toArray, List.set_cons_zero, List.set_cons_succ]
                      refine wpAnyH_take (i := 8) (oi := _) (v := ?_) (by simp only [List.getElem?_toArray, List.getElem?_cons_succ, List.getElem?_cons_zero]; rfl) (by kernel_rfl) (by kernel_rfl) (by kernel_rfl) (by exact fun _ _ _ h => h) (Or.inl ⟨by rfl, ?hyra8⟩) ((Below.refl _ _).drew) ?rera8
                      case hyra8 => (intro u hSw; clear hSw; go_simp <;> with_reducible rfl)
                      try simp only [Act.put, List.setIfInBounds_toArray, List.set_cons_zero, List.set_cons_succ]
                      refine wpAnyH_ready (rs := [0]) (by kernel_rfl) (by simp) ?_
                      refine AllReadyH.cons (o := _) (by simp only [List.getElem?_toArray, List.getElem?_cons_zero]; rfl) (fun K hK => ?_) AllReadyH.nil
                      go_simp
                      have hbz : Below wr.heap.size wr ((wr.alloc (.cells #[] 3)).drew) := ((Below.refl _ _).alloc (Nat.le_refl _) _).drew
                      have hJ : Ints ((wr.alloc (.cells #[] 3)).drew) wr.heap.size (.slice (some ⟨wr.heap.size, 0, none⟩) 0 0) [] := Ints.below (Bk.own (Bk.new wr 3 []) 0 rfl (Nat.le_refl _) (by unfold maxLen; omega)) (Below.refl _ _).drew
                      have HJ0 := Lib.hid hJ
                      have HT0 := Lib.hid hbz
                      clear hbz hJ
                      refine hK.out _ _ HT0.out (fun hHeld2 => ?_)
                      clear hK K hHeld2
                      generalize (wr.alloc (.cells #[] 3)).drew = w7 at *
                      refine wpAnyH_ready (rs := [4]) (by kernel_rfl) (by simp) ?_
                      refine AllReadyH.cons (o := _) (by simp only [List.getElem?_toArray, List.getElem?_cons_succ, List.getElem?_cons_zero]; rfl) (fun K hK => ?_) AllReadyH.nil
                      refine wp_app (.tmp 142) (.tmp 145) rfl wr.heap.size _ [] rfl HJ0.out _ X rfl (HRX.out _ HT0.out) (by have := HWl.out; rw [List.length_append] at this; simp only [List.length_nil]; omega) HT0.out.size ?_
                      intro v8 w8 hI8 hg8
                      have hT8 : Below wr.heap.size wr w8 := HT0.out.grown hg8 HT0.out.size fun t ht => by cases ht; exact Nat.le_refl _
                      have HI8 := Lib.hid hI8
                      have HT8 := Lib.hid hT8
                      clear hI8 hT8 hg8
                      refine hK.out _ _ HT8.out (fun hHeld2 => ?_)
                      clear hK K hHeld2
                      refine wpAnyH_ready (rs := [9]) (by kernel_rfl) (by simp) ?_
                      refine AllReadyH.cons (o := _) (by simp only [List.getElem?_toArray, List.getElem?_cons_succ, List.getElem?_cons_zero]; rfl) (fun K hK => ?_) AllReadyH.nil
                      refine wp_app (.tmp 146) (.tmp 150) rfl wr.heap.size v8 _ rfl HI8.out _ Y rfl (HRY.out _ HT8.out) (by have := HWl.out; rw [List.length_append] at this; rw [List.nil_append]; omega) HT8.out.size ?_
                      intro vc wc hI9 hg9
                      have hT9 : Below wr.heap.size wr wc := HT8.out.grown hg9 HT8.out.size fun g hg => (HI8.out.lt hg).2.1
                      rw [List.nil_append] at hI9
                      have WF := Lib.hid hI9
                      have HT9 := Lib.hid hT9
                      clear hI9 hT9 hg9
                      refine hK.out _ _ HT9.out (fun hHeld2 => ?_)
                      clear hK K hHeld2 hHeld
                      refine wpAnyH_take (i := 10) (oi := _) (v := ?_) (by simp only [List.getElem?_toArray, List.getElem?_cons_succ, List.getElem?_cons_zero]; rfl) (by kernel_rfl) (by kernel_rfl) (by kernel_rfl) (by exact fun _ _ _ h => h) (Or.inl ⟨by rfl, ?hysa10⟩) (HT9.out) ?resa10
                      case hysa10 => (intro u hSw; clear hSw; go_simp <;> with_reducible rfl)
                      try simp only [Act.put, List.setIfInBounds_toArray, List.set_cons_zero, List.set_cons_succ]
                      refine wpAnyH_done (by kernel_rfl) ?_ _
                      have OF := Lib.hid (OF.out.below HT9.out)
                      have BF := Lib.hid (BF.out.below HT9.out BF.out.lt)
                      have LF := Lib.hid (LF.out.trans (HT9.out.mono LF.out.size))
                      have MF := Lib.hid (MF.out.keep (HT9.out.block gm MF.out.lt))
                      have hnowW := HnowW.out
                      generalize (if cw' = x1 then some (⟨gw, 0, none⟩ : Addr) else some ⟨gw, x1, none⟩) = ax at *
                      clear HT0 HJ0 HI8 HT8 HRX HRY HW hE hlk hp1 hp2 hxc hwx hx1j HX hge hlt4 hlt5
                      go_wp2
                      obtain ⟨ScF, hcF⟩ := OF.out.cache
                      have CF := Lib.hid hcF
                      have HEQ : Hid ((now == [at_] ++ (X ++ Y)) = true) := by rw [hnowW]; exact beq_self_eq_true _
                      clear hcF hnowW
                      refine wp_region_held_drew (S := fun u : World => Below wc.heap.size wc u) (by kernel_rfl) (Below.refl _ _).drew (fun hHeld => ?_)
                      refine wpAnyH_take (i := 0) (oi := _) (v := ?_) (by simp only [List.getElem?_toArray, List.getElem?_cons_zero]; rfl) (by kernel_rfl) (by kernel_rfl) (by kernel_rfl) (by exact fun _ _ _ h => h) (Or.inl ⟨by rfl, ?hyfac0⟩) ((Below.refl _ _).drew) ?refac0
                      case hyfac0 => (intro u hSw; have e1 : u.cell? ⟨gb, 1, none⟩ = some (.int .i64 at_) := (BF.out.below hSw BF.out.lt).cell 1; clear hSw; go_simp <;> with_reducible rfl)
                      try simp only [Act.put, List.setIfInBounds_toArray, List.set_cons_zero, List.set_cons_succ]
                      refine wpAnyH_take (i := 2) (oi := _) (v := ?_) (by simp only [List.getElem?_toArray, List.getElem?_cons_succ, List.getElem?_cons_zero]; rfl) (by kernel_rfl) (by kernel_rfl) (by kernel_rfl) (by exact fun _ _ _ h => h) (Or.inl ⟨by rfl, ?hyfac2⟩) ((Below.refl _ _).drew) ?refac2
                      case hyfac2 => (intro u hSw; have e1 : u.cell? ⟨gb, 1, none⟩ = some (.int .i64 at_) := (BF.out.below hSw BF.out.lt).cell 1; clear hSw; go_simp <;> with_reducible rfl)
                      try simp only [Act.put, List.setIfInBounds_toArray, List.set_cons_zero, List.set_cons_succ]
                      refine wpAnyH_take (i := 3) (oi := _) (v := ?_) (by simp only [List.getElem?_toArray, List.getElem?_cons_succ, List.getElem?_cons_zero]; rfl) (by kernel_rfl) (by kernel_rfl) (by kernel_rfl) (by exact fun _ _ _ h => h) (Or.inl ⟨by rfl, ?hyfac3⟩) ((Below.refl _ _).drew) ?refac3
                      case hyfac3 => (intro u hSw; have e1 : u.cell? ⟨gb, 1, none⟩ = some (.int .i64 at_) := (BF.out.below hSw BF.out.lt).cell 1; clear hSw; go_simp <;> with_reducible rfl)
                      try simp only [Act.put, List.setIfInBounds_toArray, List.set_cons_zero, List.set_cons_succ]
                      refine wpAnyH_take (i := 5) (oi := _) (v := ?_) (by simp only [List.getElem?_toArray, List.getElem?_cons_succ, List.getElem?_cons_zero]; rfl) (by kernel_rfl) (by kernel_rfl) (by kernel_rfl) (by exact fun _ _ _ h => h) (Or.inl ⟨by rfl, ?hyfac5⟩) ((Below.refl _ _).drew) ?refac5
                      case hyfac5 => (intro u hSw; have e1 : u.cell? ⟨gb, 1, none⟩ = some (.int .i64 at_) := (BF.out.below hSw BF.out.lt).cell 1; clear hSw; go_simp <;> with_reducible rfl)
                      try simp only [Act.put, List.setIfInBounds_toArray, List.set_cons_zero, List.set_cons_succ]
                      refine wpAnyH_ready (rs := [1, 4]) (by kernel_rfl) (by simp) ?_
                      refine AllReadyH.cons (o := _) (by simp only [List.getElem?_toArray, List.getElem?_cons_succ, List.getElem?_cons_zero]; rfl) (fun K hK => ?_) (AllReadyH.cons (o := _) (by simp only [List.getElem?_toArray, List.getElem?_cons_succ, List.getElem?_cons_zero]; rfl) (fun K hK => ?_) (AllReadyH.nil))
                      · go_simp
                        refine (has_cached (CF.out.below (Below.refl _ _).drew) CT.out.fine.len).mono ?_
                        rintro e w7 ⟨v7, rfl, hI, hb⟩
                        have hT7 : Below wc.heap.size wc w7 := (Below.refl _ wc).drew.trans (hb.mono (Nat.le_refl _))
                        have hI7 : Ints w7 0 v7 now := by rw [Hnow.out]; exact hI.more (Nat.zero_le _)
                        have HT7 := Lib.hid hT7
                        have HI7 := Lib.hid hI7
                        clear hT7 hI7 hI hb
                        go_simp
                        refine hK.out _ _ HT7.out (fun hHeld2 => ?_)
                        refine held_strong (T := fun u => Ints u 0 v7 now ∧ Below wc.heap.size wc u) (by rintro _ ⟨_, h⟩; exact h) _ _ _ _ ?_
                        clear hK K hHeld2
                        refine wpAnyH_ready (rs := [4]) (by kernel_rfl) (by simp) ?_
                        refine AllReadyH.cons (o := _) (by simp only [List.getElem?_toArray, List.getElem?_cons_succ, List.getElem?_cons_zero]; rfl) (fun K hK => ?_) AllReadyH.nil
                        go_simp
                        have hbz : Below w7.heap.size w7 (w7.alloc (.cells #[.int .i64 at_] 3)) := (Below.refl _ _).alloc (Nat.le_refl _) _
                        have hJ : Ints (w7.alloc (.cells #[.int .i64 at_] 3)) 0 (.slice (some ⟨w7.heap.size, 0, none⟩) 1 1) [at_] := ints_one w7 0 at_ (Nat.zero_le _)
                        have hT : Ints (w7.alloc (.cells #[.int .i64 at_] 3)) 0 v7 now ∧ Below wc.heap.size wc (w7.alloc (.cells #[.int .i64 at_] 3)) := ⟨HI7.out.below hbz, HT7.out.trans (hbz.mono HT7.out.size)⟩
                        have hne : ∀ g, v7.ownBlock = some g → w7.heap.size ≠ g := fun g hg e => by have := (HI7.out.lt hg).1; omega
                        have HJ := Lib.hid hJ
                        have HT := Lib.hid hT
                        have Hne := Lib.hid hne
                        have Hgq : Hid (wc.heap.size ≤ w7.heap.size) := HT7.out.size
                        clear hbz hJ hT hne
                        refine hK.out _ _ HT.out (fun hHeld2 => ?_)
                        clear hK K hHeld2
                        obtain ⟨gq, hgq⟩ : ∃ gq, gq = w7.heap.size := ⟨_, rfl⟩
                        rw [← hgq] at HJ Hne Hgq ⊢
                        generalize w7.alloc (.cells #[.int .i64 at_] 3) = w8 at *
                        clear hgq
                        refine wpAnyH_ready (rs := [6]) (by kernel_rfl) (by simp) ?_
                        refine AllReadyH.cons (o := _) (by simp only [List.getElem?_toArray, List.getElem?_cons_succ, List.getElem?_cons_zero]; rfl) (fun K hK => ?_) AllReadyH.nil
                        refine wp_app (.tmp 156) (.tmp 157) rfl 0 _ [at_] rfl HJ.out _ (X ++ Y) rfl (WF.out.below HT.out.2).reads (by simp only [List.length_cons, List.length_nil]; have := HWl.out; omega) (Nat.zero_le _) ?_
                        intro v9 w9 hI9 hg9
                        have hT9 : Ints w9 0 v7 now ∧ Below wc.heap.size wc w9 := ⟨HT.out.1.keep fun g hg => hg9.block g (HT.out.1.lt hg).1 fun e => by injection e with e; exact Hne.out g hg e.symm, HT.out.2.grown hg9 HT.out.2.size fun t ht => by cases ht; exact Hgq.out⟩
                        have HT9 := Lib.hid hT9
                        have HI9 := Lib.hid hI9
                        clear hT9 hI9 hg9
                        refine hK.out _ _ HT9.out (fun hHeld3 => ?_)
                        clear hK K hHeld3
                        refine wpAnyH_ready (rs := [7]) (by kernel_rfl) (by simp) ?_
                        refine AllReadyH.cons (o := _) (by simp only [List.getElem?_toArray, List.getElem?_cons_succ, List.getElem?_cons_zero]; rfl) (fun K hK => ?_) AllReadyH.nil
                        go_simp
                        refine (same_ints HT9.out.1 HI9.out).mono ?_
                        rintro e w10 ⟨rfl, hb⟩
                        have hT10 : Ints w10 0 v7 now ∧ Below wc.heap.size wc w10 := ⟨HT9.out.1.below hb, HT9.out.2.trans (hb.mono HT9.out.2.size)⟩
                        have HT10 := Lib.hid hT10
                        clear hT10 hb
                        rw [HEQ.out]
                        go_simp
                        refine hK.out _ _ HT10.out (fun hHeld3 => ?_)
                        clear hK K hHeld3
                        refine wpAnyH_take (i := 8) (oi := _) (v := ?_) (by simp only [List.getElem?_toArray, List.getElem?_cons_succ, List.getElem?_cons_zero]; rfl) (by kernel_rfl) (by kernel_rfl) (by kernel_rfl) (by exact fun _ _ _ h => h) (Or.inl ⟨by rfl, ?hyfacp8⟩) (HT10.out) ?refacp8
                        case hyfacp8 => (intro u hSw; clear hSw; go_simp <;> with_reducible rfl)
                        try simp only [Act.put, List.setIfInBounds_toArray, List.set_cons_zero, List.set_cons_succ]
                        refine wpAnyH_done (by kernel_rfl) ?_ _
                        go_wp2
                        go_roundw
                        case rel => exact ⟨j + 1, V, L', k', S', pn, pt, m2, by omega, by go_num, OF.out.below HT10.out.2, CT.out, MF.out.keep (HT10.out.2.block gm MF.out.lt), HPT.out, by omega, NT.out, LF.out.trans (HT10.out.2.mono LF.out.size)⟩
                        case measure => simp [intOf]; omega
                      · go_simp
                        have hbz : Below wc.heap.size wc ((wc.alloc (.cells #[.int .i64 at_] 3)).drew) := ((Below.refl _ _).alloc (Nat.le_refl _) _).drew
                        have hJ : Ints ((wc.alloc (.cells #[.int .i64 at_] 3)).drew) 0 (.slice (some ⟨wc.heap.size, 0, none⟩) 1 1) [at_] := (ints_one _ 0 at_ (Nat.zero_le _)).below (Below.refl _ _).drew
                        have HJ0 := Lib.hid hJ
                        have HT0 := Lib.hid hbz
                        have Hgq : Hid (wc.heap.size ≤ wc.heap.size) := Nat.le_refl _
                        have hgl : wc.heap.size < ((wc.alloc (.cells #[.int .i64 at_] 3)).drew).heap.size := by simp
                        clear hbz hJ
                        refine hK.out _ _ HT0.out (fun hHeld2 => ?_)
                        clear hK K hHeld2
                        have Hgl := Lib.hid hgl
                        clear hgl
                        generalize (wc.alloc (.cells #[.int .i64 at_] 3)).drew = w7 at *
                        refine wpAnyH_ready (rs := [1]) (by kernel_rfl) (by simp) ?_
                        refine AllReadyH.cons (o := _) (by simp only [List.getElem?_toArray, List.getElem?_cons_succ, List.getElem?_cons_zero]; rfl) (fun K hK => ?_) AllReadyH.nil
                        go_simp
                        refine (has_cached (CF.out.below HT0.out) CT.out.fine.len).mono ?_
                        rintro e w8 ⟨v7, rfl, hI, hb⟩
                        have hT : Ints w8 0 v7 now ∧ Below wc.heap.size wc w8 := ⟨by rw [Hnow.out]; exact hI.more (Nat.zero_le _), HT0.out.trans (hb.mono HT0.out.size)⟩
                        have hne : ∀ g, v7.ownBlock = some g → wc.heap.size ≠ g := fun g hg e => by have := (hI.lt hg).2.1; have := Hgl.out; omega
                        have HT := Lib.hid hT
                        have Hne := Lib.hid hne
                        have HJ := Lib.hid (HJ0.out.below hb)
                        clear hI hb hT hne HJ0 HT0
                        go_simp
                        refine hK.out _ _ HT.out.2 (fun hHeld2 => ?_)
                        refine held_strong (T := fun u => Ints u 0 v7 now ∧ Below wc.heap.size wc u) (by rintro _ ⟨_, h⟩; exact h) _ _ _ _ ?_
                        clear hK K hHeld2
                        refine wpAnyH_ready (rs := [6]) (by kernel_rfl) (by simp) ?_
                        refine AllReadyH.cons (o := _) (by simp only [List.getElem?_toArray, List.getElem?_cons_succ, List.getElem?_cons_zero]; rfl) (fun K hK => ?_) AllReadyH.nil
                        refine wp_app (.tmp 156) (.tmp 157) rfl 0 _ [at_] rfl HJ.out _ (X ++ Y) rfl (WF.out.below HT.out.2).reads (by simp only [List.length_cons, List.length_nil]; have := HWl.out; omega) (Nat.zero_le _) ?_
                        intro v9 w9 hI9 hg9
                        have hT9 : Ints w9 0 v7 now ∧ Below wc.heap.size wc w9 := ⟨HT.out.1.keep fun g hg => hg9.block g (HT.out.1.lt hg).1 fun e => by injection e with e; exact Hne.out g hg e.symm, HT.out.2.grown hg9 HT.out.2.size fun t ht => by cases ht; exact Hgq.out⟩
                        have HT9 := Lib.hid hT9
                        have HI9 := Lib.hid hI9
                        clear hT9 hI9 hg9
                        refine hK.out _ _ HT9.out (fun hHeld3 => ?_)
                        clear hK K hHeld3
                        refine wpAnyH_ready (rs := [7]) (by kernel_rfl) (by simp) ?_
                        refine AllReadyH.cons (o := _) (by simp only [List.getElem?_toArray, List.getElem?_cons_succ, List.getElem?_cons_zero]; rfl) (fun K hK => ?_) AllReadyH.nil
                        go_simp
                        refine (same_ints HT9.out.1 HI9.out).mono ?_
                        rintro e w10 ⟨rfl, hb⟩
                        have hT10 : Ints w10 0 v7 now ∧ Below wc.heap.size wc w10 := ⟨HT9.out.1.below hb, HT9.out.2.trans (hb.mono HT9.out.2.size)⟩
                        have HT10 := Lib.hid hT10
                        clear hT10 hb
                        rw [HEQ.out]
                        go_simp
                        refine hK.out _ _ HT10.out (fun hHeld3 => ?_)
                        clear hK K hHeld3
                        refine wpAnyH_take (i := 8) (oi := _) (v := ?_) (by simp only [List.getElem?_toArray, List.getElem?_cons_succ, List.getElem?_cons_zero]; rfl) (by kernel_rfl) (by kernel_rfl) (by kernel_rfl) (by exact fun _ _ _ h => h) (Or.inl ⟨by rfl, ?hyfacq8⟩) (HT10.out) ?refacq8
                        case hyfacq8 => (intro u hSw; clear hSw; go_simp <;> with_reducible rfl)
                        try simp only [Act.put, List.setIfInBounds_toArray, List.set_cons_zero, List.set_cons_succ]
                        refine wpAnyH_done (by kernel_rfl) ?_ _
                        go_wp2
                        go_roundw
                        case rel => exact ⟨j + 1, V, L', k', S', pn, pt, m2, by omega, by go_num, OF.out.below HT10.out.2, CT.out, MF.out.keep (HT10.out.2.block gm MF.out.lt), HPT.out, by omega, NT.out, LF.out.trans (HT10.out.2.mono LF.out.size)⟩
                        case measure => simp [intOf]; omega
                    · obtain ⟨p', rfl⟩ : ∃ p', p = p' + 1 := ⟨p - 1, by omega⟩
                      obtain ⟨y, hcy, hpy, hyI⟩ := HY.out p' (by omega)
                      rw [← Hq1.out] at hcy
                      have hlk := (MF.out.look intE Try.underlying54 hyI).1
                      obtain ⟨q2, hq2⟩ : ∃ q2, q2 = x0 + p' := ⟨_, rfl⟩
                      have hwp : wrap64 ((q1 : Int) - 1) = (q2 : Int) := by have := Hq1.out; unfold wrap64; omega
                      have hmea : q2 < q1 := by have := Hq1.out; omega
                      have Hq2 := Lib.hid hq2
                      clear hq2
                      go_wp2
                      go_roundw
                      case rel => exact ⟨p', q2, by omega, Hq2.out, by first | trivial | rfl | exact congrArg (Value.int .i64) (by have := Hq1.out; have := Hq2.out; omega), by first | trivial | rfl⟩
                      case measure => simp [intOf]; omega
          · have hLL := get_still hR herr
            clear hst hO OH MH LH BH IH
            rw [hLL] at CT OT
            have hne0 := herr
            clear hR hLL
            go_wp2
            go_roundw
            case rel => exact ⟨j + 1, V, L, k', S', pn, pt, m2, by omega, by go_num, OT.out, CT.out, MT.out, HP.out, by omega, NT.out, LT.out⟩
            case measure => simp [intOf]; omega
      · as_aux_lemma =>
          go_wp2_with fail
          refine (patch_any at_ ac hac _).mono ?_
          rintro e w5 ⟨g5, rfl, hg5, hB5, hb5⟩
          have O1 := Lib.hid (OH.out.below hb5)
          have M1 := Lib.hid (MH.out.keep (hb5.block gm MH.out.lt))
          have B1 := Lib.hid (BH.out.below hb5 BH.out.lt)
          have I1 := Lib.hid (IH.out.below hb5)
          have L1 := Lib.hid (LH.out.trans (hb5.mono LH.out.size))
          have N5 : Hid (¬ S g5) := OH.out.new hg5
          have B5 := Lib.hid hB5
          clear hg5 hB5 hb5 OH MH LH BH IH
          go_wp2_with fail
          refine (cput_all O1.out L1.out.size C.out.fine (by have := HJ.out; omega) at_ B5.out N5.out).mono ?_
          rintro e wT ⟨err, L', k', S', rfl, hR, hO, hst⟩
          have hcp : ∃ V', Coh 8 j rm V' (j + 1) L' k' := by
            rcases coh_put C.out Hrl.out.1 (Nat.le_trans Hrl.out.2 (by decide)) hR with ⟨_, t', _, _, hC'⟩ | ⟨_, hC'⟩
            · exact ⟨_, hC'⟩
            · exact ⟨_, hC'⟩
          obtain ⟨V', hC'⟩ := hcp
          have CT : Hid (Coh 8 (j + 1) rm V' (j + 1) L' k') := hC'.up (Nat.le_refl _) (Nat.le_succ _)
          have OT := Lib.hid hO
          have MT := Lib.hid (M1.out.keep (hst.1.block gm M1.out.lt NL.out))
          have NT : Hid (¬ S' gm) := hst.not M1.out.lt NL.out
          have LT := Lib.hid (L1.out.trans (hst.below O1.out.2 L1.out.size))
          have BT := Lib.hid (hst.bk B1.out NA0.out)
          have IT := Lib.hid ((I1.out.keep fun g hg => hst.1.block g (I1.out.lt hg).1 (NI.out g hg)).more (Nat.zero_le _))
          by_cases herr : err = 0
          · subst herr
            have hT := put_touch hR
            have HPT := Lib.hid (HP.out.touch C.out hT)
            have hTold := touch_told HP.out C.out hT
            rw [← Hwas.out] at hTold
            clear hC' hT hR hO hst O1 M1 L1 B1 I1 N5 B5
            obtain ⟨now, hnow⟩ : ∃ now, now = (keysI L').reverse := ⟨_, rfl⟩
            rw [← hnow] at hTold
            have Hnow := Lib.hid hnow
            have HTold := Lib.hid hTold
            have HwI : Hid (∀ z ∈ was, I64 z) := fun z hz => by
              rw [Hwas.out, List.mem_reverse] at hz
              obtain ⟨p, hp, rfl⟩ := List.mem_map.1 hz
              exact I64_nat (Nat.le_trans (Nat.le_of_lt (C.out.fine.key p hp)) C.out.fine.n)
            have b4 : wT.cell? ⟨gb, 1, none⟩ = some (.int .i64 at_) := BT.out.cell 1
            clear hnow hTold
            go_wp2
            go_loopw [17, 18, 103] (fun u kb i wx => ∃ j2 : Nat, j2 ≤ nH ∧ i = .int .i64 (j2 : Int) ∧ Ints wx wT.heap.size u ((was.take j2).filter fun a => decide (a ≠ at_)) ∧ kb = .bool (decide (at_ ∈ was.take j2)) ∧ Below wT.heap.size wT wx) (fun _ _ i _ => nH - (intOf i).toNat)
            case atStart => exact ⟨0, Nat.zero_le _, rfl, Ints.nil _ _, by simp, Below.refl _ _⟩
            case round =>
              obtain ⟨j2, hj2, rfl, hW, rfl, hbx⟩ := hrel
              have HW := Lib.hid hW
              have Hbx := Lib.hid hbx
              clear hW hbx
              by_cases hlt2 : j2 < nH
              · have hjl : j2 < was.length := by rw [← HnH.out]; exact hlt2
                obtain ⟨gv, cv', hv, hcell, _⟩ := (IT.out.below Hbx.out).get hjl
                obtain rfl : Av = some ⟨gv, 0, none⟩ := by injection hv
                clear hv
                obtain ⟨z, hz⟩ : ∃ z, z = was[j2] := ⟨_, rfl⟩
                rw [← hz] at hcell
                have htk : was.take (j2 + 1) = was.take j2 ++ [z] := by rw [hz]; exact List.take_succ_eq_append_getElem hjl
                have Htk := Lib.hid htk
                have b5 : wr.cell? ⟨gb, 1, none⟩ = some (.int .i64 at_) := (BT.out.below Hbx.out BT.out.lt).cell 1
                have Hle : Hid (((was.take j2).filter fun a => decide (a ≠ at_)).length ≤ 1000000) := by
                  have h1 := List.length_filter_le (fun a => decide (a ≠ at_)) (was.take j2)
                  have h2 := List.length_take_le j2 was
                  have := Hrl.out
                  unfold Hid
                  omega
                clear hz htk hjl
                by_cases hza : z = at_
                · rw [hza] at hcell Htk
                  clear hza
                  go_wp2
                  go_roundw
                  case rel =>
                    refine ⟨j2 + 1, by omega, by go_num, ?_, ?_, Hbx.out⟩
                    · rw [Htk.out, List.filter_append]
                      simpa using HW.out
                    · rw [Htk.out]
                      simp
                  case measure => simp [intOf]; omega
                · go_wp2_with (at_builtin; refine wpList_snoc _ rfl (.tmp 111) (.tmp 113) rfl wT.heap.size u17 _ rfl (HW.out.below ((Below.refl _ _).alloc (Nat.le_refl _) _)) _ z rfl (Bk.cell (Bk.new _ 3 [.int .i64 z]) 0) Hle.out (Nat.le_trans Hbx.out.size (by simp)) ?_; intro v' w3 hI3 hg3 hl3; have HI3 := Lib.hid hI3; have Hg3 := Lib.hid hg3; clear hI3 hg3 hl3)
                  go_roundw
                  case rel =>
                    refine ⟨j2 + 1, by omega, by go_num, ?_, ?_, (Hbx.out.alloc Hbx.out.size (.cells #[.int .i64 z] 3)).grown Hg3.out (by simp; exact Nat.le_succ_of_le Hbx.out.size) fun g hg => (HW.out.lt hg).2.1⟩
                    · rw [Htk.out, List.filter_append]
                      have : [z].filter (fun a => decide (a ≠ at_)) = [z] := by simp [hza]
                      rw [this]
                      exact HI3.out
                    · rw [Htk.out]
                      have : at_ ≠ z := fun e => hza e.symm
                      simp [this]
                  case measure => simp [intOf]; omega
              · obtain rfl : j2 = nH := by omega
                have htake : was.take j2 = was := List.take_of_length_le (by rw [← HnH.out]; exact Nat.le_refl _)
                rw [htake] at HW ⊢
                have OF := Lib.hid (OT.out.below Hbx.out)
                have MF := Lib.hid (MT.out.keep (Hbx.out.block gm MT.out.lt))
                have LF := Lib.hid (LT.out.trans (Hbx.out.mono LT.out.size))
                have BF := Lib.hid (BT.out.below Hbx.out BT.out.lt)
                clear OT MT LT BT IT htake b4
                rcases HTold.out with ⟨hin, hnowW⟩ | ⟨hni, hlt3, hnowW⟩ | ⟨hni, heq, X, Y, e0, hXY, he0, hY, hnowW⟩
                · have hd : decide (at_ ∈ was) = true := decide_eq_true hin
                  have WF := HW
                  have HWl : Hid ((was.filter fun a => decide (a ≠ at_)).length ≤ 1000) := by
                    have h1 := List.length_filter_le (fun a => decide (a ≠ at_)) was
                    have := HnH.out
                    have := Hrl.out
                    unfold Hid
                    omega
                  rw [hd]
                  clear HW hin hd
                  go_wp2
                  obtain ⟨ScF, hcF⟩ := OF.out.cache
                  have CF := Lib.hid hcF
                  have HEQ : Hid ((now == [at_] ++ ((was.filter fun a => decide (a ≠ at_)))) = true) := by rw [hnowW]; exact beq_self_eq_true _
                  clear hcF hnowW
                  refine wp_region_held_drew (S := fun u : World => Below wr.heap.size wr u) (by kernel_rfl) (Below.refl _ _).drew (fun hHeld => ?_)
                  refine wpAnyH_take (i := 0) (oi := _) (v := ?_) (by simp only [List.getElem?_toArray, List.getElem?_cons_zero]; rfl) (by kernel_rfl) (by kernel_rfl) (by kernel_rfl) (by exact fun _ _ _ h => h) (Or.inl ⟨by rfl, ?hyfba0⟩) ((Below.refl _ _).drew) ?refba0
                  case hyfba0 => (intro u hSw; have e1 : u.cell? ⟨gb, 1, none⟩ = some (.int .i64 at_) := (BF.out.below hSw BF.out.lt).cell 1; clear hSw; go_simp <;> with_reducible rfl)
                  try simp only [Act.put, List.setIfInBounds_toArray, List.set_cons_zero, List.set_cons_succ]
                  refine wpAnyH_take (i := 2) (oi := _) (v := ?_) (by simp only [List.getElem?_toArray, List.getElem?_cons_succ, List.getElem?_cons_zero]; rfl) (by kernel_rfl) (by kernel_rfl) (by kernel_rfl) (by exact fun _ _ _ h => h) (Or.inl ⟨by rfl, ?hyfba2⟩) ((Below.refl _ _).drew) ?refba2
                  case hyfba2 => (intro u hSw; have e1 : u.cell? ⟨gb, 1, none⟩ = some (.int .i64 at_) := (BF.out.below hSw BF.out.lt).cell 1; clear hSw; go_simp <;> with_reducible rfl)
                  try simp only [Act.put, List.setIfInBounds_toArray, List.set_cons_zero, List.set_cons_succ]
                  refine wpAnyH_take (i := 3) (oi := _) (v := ?_) (by simp only [List.getElem?_toArray, List.getElem?_cons_succ, List.getElem?_cons_zero]; rfl) (by kernel_rfl) (by kernel_rfl) (by kernel_rfl) (by exact fun _ _ _ h => h) (Or.inl ⟨by rfl, ?hyfba3⟩) ((Below.refl _ _).drew) ?refba3
                  case hyfba3 => (intro u hSw; have e1 : u.cell? ⟨gb, 1, none⟩ = some (.int .i64 at_) := (BF.out.below hSw BF.out.lt).cell 1; clear hSw; go_simp <;> with_reducible rfl)
                  try simp only [Act.put, List.setIfInBounds_toArray, List.set_cons_zero, List.set_cons_succ]
                  refine wpAnyH_take (i := 5) (oi := _) (v := ?_) (by simp only [List.getElem?_toArray, List.getElem?_cons_succ, List.getElem?_cons_zero]; rfl) (by kernel_rfl) (by kernel_rfl) (by kernel_rfl) (by exact fun _ _ _ h => h) (Or.inl ⟨by rfl, ?hyfba5⟩) ((Below.refl _ _).drew) ?refba5
                  case hyfba5 => (intro u hSw; have e1 : u.cell? ⟨gb, 1, none⟩ = some (.int .i64 at_) := (BF.out.below hSw BF.out.lt).cell 1; clear hSw; go_simp <;> with_reducible rfl)
                  try simp only [Act.put, List.setIfInBounds_toArray, List.set_cons_zero, List.set_cons_succ]
                  refine wpAnyH_ready (rs := [1, 4]) (by kernel_rfl) (by simp) ?_
                  refine AllReadyH.cons (o := _) (by simp only [List.getElem?_toArray, List.getElem?_cons_succ, List.getElem?_cons_zero]; rfl) (fun K hK => ?_) (AllReadyH.cons (o := _) (by simp only [List.getElem?_toArray, List.getElem?_cons_succ, List.getElem?_cons_zero]; rfl) (fun K hK => ?_) (AllReadyH.nil))
                  · go_simp
                    refine (has_cached (CF.out.below (Below.refl _ _).drew) CT.out.fine.len).mono ?_
                    rintro e w7 ⟨v7, rfl, hI, hb⟩
                    have hT7 : Below wr.heap.size wr w7 := (Below.refl _ wr).drew.trans (hb.mono (Nat.le_refl _))
                    have hI7 : Ints w7 0 v7 now := by rw [Hnow.out]; exact hI.more (Nat.zero_le _)
                    have HT7 := Lib.hid hT7
                    have HI7 := Lib.hid hI7
                    clear hT7 hI7 hI hb
                    go_simp
                    refine hK.out _ _ HT7.out (fun hHeld2 => ?_)
                    refine held_strong (T := fun u => Ints u 0 v7 now ∧ Below wr.heap.size wr u) (by rintro _ ⟨_, h⟩; exact h) _ _ _ _ ?_
                    clear hK K hHeld2
                    refine wpAnyH_ready (rs := [4]) (by kernel_rfl) (by simp) ?_
                    refine AllReadyH.cons (o := _) (by simp only [List.getElem?_toArray, List.getElem?_cons_succ, List.getElem?_cons_zero]; rfl) (fun K hK => ?_) AllReadyH.nil
                    go_simp
                    have hbz : Below w7.heap.size w7 (w7.alloc (.cells #[.int .i64 at_] 3)) := (Below.refl _ _).alloc (Nat.le_refl _) _
                    have hJ : Ints (w7.alloc (.cells #[.int .i64 at_] 3)) 0 (.slice (some ⟨w7.heap.size, 0, none⟩) 1 1) [at_] := ints_one w7 0 at_ (Nat.zero_le _)
                    have hT : Ints (w7.alloc (.cells #[.int .i64 at_] 3)) 0 v7 now ∧ Below wr.heap.size wr (w7.alloc (.cells #[.int .i64 at_] 3)) := ⟨HI7.out.below hbz, HT7.out.trans (hbz.mono HT7.out.size)⟩
                    have hne : ∀ g, v7.ownBlock = some g → w7.heap.size ≠ g := fun g hg e => by have := (HI7.out.lt hg).1; omega
                    have HJ := Lib.hid hJ
                    have HT := Lib.hid hT
                    have Hne := Lib.hid hne
                    have Hgq : Hid (wr.heap.size ≤ w7.heap.size) := HT7.out.size
                    clear hbz hJ hT hne
                    refine hK.out _ _ HT.out (fun hHeld2 => ?_)
                    clear hK K hHeld2
                    obtain ⟨gq, hgq⟩ : ∃ gq, gq = w7.heap.size := ⟨_, rfl⟩
                    rw [← hgq] at HJ Hne Hgq ⊢
                    generalize w7.alloc (.cells #[.int .i64 at_] 3) = w8 at *
                    clear hgq
                    refine wpAnyH_ready (rs := [6]) (by kernel_rfl) (by simp) ?_
                    refine AllReadyH.cons (o := _) (by simp only [List.getElem?_toArray, List.getElem?_cons_succ, List.getElem?_cons_zero]; rfl) (fun K hK => ?_) AllReadyH.nil
                    refine wp_app (.tmp 156) (.tmp 157) rfl 0 _ [at_] rfl HJ.out _ ((was.filter fun a => decide (a ≠ at_))) rfl (WF.out.below HT.out.2).reads (by simp only [List.length_cons, List.length_nil]; have := HWl.out; omega) (Nat.zero_le _) ?_
                    intro v9 w9 hI9 hg9
                    have hT9 : Ints w9 0 v7 now ∧ Below wr.heap.size wr w9 := ⟨HT.out.1.keep fun g hg => hg9.block g (HT.out.1.lt hg).1 fun e => by injection e with e; exact Hne.out g hg e.symm, HT.out.2.grown hg9 HT.out.2.size fun t ht => by cases ht; exact Hgq.out⟩
                    have HT9 := Lib.hid hT9
                    have HI9 := Lib.hid hI9
                    clear hT9 hI9 hg9
                    refine hK.out _ _ HT9.out (fun hHeld3 => ?_)
                    clear hK K hHeld3
                    refine wpAnyH_ready (rs := [7]) (by kernel_rfl) (by simp) ?_
                    refine AllReadyH.cons (o := _) (by simp only [List.getElem?_toArray, List.getElem?_cons_succ, List.getElem?_cons_zero]; rfl) (fun K hK => ?_) AllReadyH.nil
                    go_simp
                    refine (same_ints HT9.out.1 HI9.out).mono ?_
                    rintro e w10 ⟨rfl, hb⟩
                    have hT10 : Ints w10 0 v7 now ∧ Below wr.heap.size wr w10 := ⟨HT9.out.1.below hb, HT9.out.2.trans (hb.mono HT9.out.2.size)⟩
                    have HT10 := Lib.hid hT10
                    clear hT10 hb
                    rw [HEQ.out]
                    go_simp
                    refine hK.out _ _ HT10.out (fun hHeld3 => ?_)
                    clear hK K hHeld3
                    refine wpAnyH_take (i := 8) (oi := _) (v := ?_) (by simp only [List.getElem?_toArray, List.getElem?_cons_succ, List.getElem?_cons_zero]; rfl) (by kernel_rfl) (by kernel_rfl) (by kernel_rfl) (by exact fun _ _ _ h => h) (Or.inl ⟨by rfl, ?hyfbap8⟩) (HT10.out) ?refbap8
                    case hyfbap8 => (intro u hSw; clear hSw; go_simp <;> with_reducible rfl)
                    try simp only [Act.put, List.setIfInBounds_toArray, List.set_cons_zero, List.set_cons_succ]
                    refine wpAnyH_done (by kernel_rfl) ?_ _
                    go_wp2
                    go_roundw
                    case rel => exact ⟨j + 1, V', L', k', S', pn, pt, m2, by omega, by go_num, OF.out.below HT10.out.2, CT.out, MF.out.keep (HT10.out.2.block gm MF.out.lt), HPT.out, by omega, NT.out, LF.out.trans (HT10.out.2.mono LF.out.size)⟩
                    case measure => simp [intOf]; omega
                  · go_simp
                    have hbz : Below wr.heap.size wr ((wr.alloc (.cells #[.int .i64 at_] 3)).drew) := ((Below.refl _ _).alloc (Nat.le_refl _) _).drew
                    have hJ : Ints ((wr.alloc (.cells #[.int .i64 at_] 3)).drew) 0 (.slice (some ⟨wr.heap.size, 0, none⟩) 1 1) [at_] := (ints_one _ 0 at_ (Nat.zero_le _)).below (Below.refl _ _).drew
                    have HJ0 := Lib.hid hJ
                    have HT0 := Lib.hid hbz
                    have Hgq : Hid (wr.heap.size ≤ wr.heap.size) := Nat.le_refl _
                    have hgl : wr.heap.size < ((wr.alloc (.cells #[.int .i64 at_] 3)).drew).heap.size := by simp
                    clear hbz hJ
                    refine hK.out _ _ HT0.out (fun hHeld2 => ?_)
                    clear hK K hHeld2
                    have Hgl := Lib.hid hgl
                    clear hgl
                    generalize (wr.alloc (.cells #[.int .i64 at_] 3)).drew = w7 at *
                    refine wpAnyH_ready (rs := [1]) (by kernel_rfl) (by simp) ?_
                    refine AllReadyH.cons (o := _) (by simp only [List.getElem?_toArray, List.getElem?_cons_succ, List.getElem?_cons_zero]; rfl) (fun K hK => ?_) AllReadyH.nil
                    go_simp
                    refine (has_cached (CF.out.below HT0.out) CT.out.fine.len).mono ?_
                    rintro e w8 ⟨v7, rfl, hI, hb⟩
                    have hT : Ints w8 0 v7 now ∧ Below wr.heap.size wr w8 := ⟨by rw [Hnow.out]; exact hI.more (Nat.zero_le _), HT0.out.trans (hb.mono HT0.out.size)⟩
                    have hne : ∀ g, v7.ownBlock = some g → wr.heap.size ≠ g := fun g hg e => by have := (hI.lt hg).2.1; have := Hgl.out; omega
                    have HT := Lib.hid hT
                    have Hne := Lib.hid hne
                    have HJ := Lib.hid (HJ0.out.below hb)
                    clear hI hb hT hne HJ0 HT0
                    go_simp
                    refine hK.out _ _ HT.out.2 (fun hHeld2 => ?_)
                    refine held_strong (T := fun u => Ints u 0 v7 now ∧ Below wr.heap.size wr u) (by rintro _ ⟨_, h⟩; exact h) _ _ _ _ ?_
                    clear hK K hHeld2
                    refine wpAnyH_ready (rs := [6]) (by kernel_rfl) (by simp) ?_
                    refine AllReadyH.cons (o := _) (by simp only [List.getElem?_toArray, List.getElem?_cons_succ, List.getElem?_cons_zero]; rfl) (fun K hK => ?_) AllReadyH.nil
                    refine wp_app (.tmp 156) (.tmp 157) rfl 0 _ [at_] rfl HJ.out _ ((was.filter fun a => decide (a ≠ at_))) rfl (WF.out.below HT.out.2).reads (by simp only [List.length_cons, List.length_nil]; have := HWl.out; omega) (Nat.zero_le _) ?_
                    intro v9 w9 hI9 hg9
                    have hT9 : Ints w9 0 v7 now ∧ Below wr.heap.size wr w9 := ⟨HT.out.1.keep fun g hg => hg9.block g (HT.out.1.lt hg).1 fun e => by injection e with e; exact Hne.out g hg e.symm, HT.out.2.grown hg9 HT.out.2.size fun t ht => by cases ht; exact Hgq.out⟩
                    have HT9 := Lib.hid hT9
                    have HI9 := Lib.hid hI9
                    clear hT9 hI9 hg9
                    refine hK.out _ _ HT9.out (fun hHeld3 => ?_)
                    clear hK K hHeld3
                    refine wpAnyH_ready (rs := [7]) (by kernel_rfl) (by simp) ?_
                    refine AllReadyH.cons (o := _) (by simp only [List.getElem?_toArray, List.getElem?_cons_succ, List.getElem?_cons_zero]; rfl) (fun K hK => ?_) AllReadyH.nil
                    go_simp
                    refine (same_ints HT9.out.1 HI9.out).mono ?_
                    rintro e w10 ⟨rfl, hb⟩
                    have hT10 : Ints w10 0 v7 now ∧ Below wr.heap.size wr w10 := ⟨HT9.out.1.below hb, HT9.out.2.trans (hb.mono HT9.out.2.size)⟩
                    have HT10 := Lib.hid hT10
                    clear hT10 hb
                    rw [HEQ.out]
                    go_simp
                    refine hK.out _ _ HT10.out (fun hHeld3 => ?_)
                    clear hK K hHeld3
                    refine wpAnyH_take (i := 8) (oi := _) (v := ?_) (by simp only [List.getElem?_toArray, List.getElem?_cons_succ, List.getElem?_cons_zero]; rfl) (by kernel_rfl) (by kernel_rfl) (by kernel_rfl) (by exact fun _ _ _ h => h) (Or.inl ⟨by rfl, ?hyfbaq8⟩) (HT10.out) ?refbaq8
                    case hyfbaq8 => (intro u hSw; clear hSw; go_simp <;> with_reducible rfl)
                    try simp only [Act.put, List.setIfInBounds_toArray, List.set_cons_zero, List.set_cons_succ]
                    refine wpAnyH_done (by kernel_rfl) ?_ _
                    go_wp2
                    go_roundw
                    case rel => exact ⟨j + 1, V', L', k', S', pn, pt, m2, by omega, by go_num, OF.out.below HT10.out.2, CT.out, MF.out.keep (HT10.out.2.block gm MF.out.lt), HPT.out, by omega, NT.out, LF.out.trans (HT10.out.2.mono LF.out.size)⟩
                    case measure => simp [intOf]; omega
                · have hd : decide (at_ ∈ was) = false := decide_eq_false hni
                  have hf : was.filter (fun a => decide (a ≠ at_)) = was := List.filter_eq_self.2 fun a ha => by
                    have : a ≠ at_ := fun e => hni (e ▸ ha)
                    simp [this]
                  have hjrm : ¬ ((j2 : Int) = (rm : Int)) := by have := HnH.out; omega
                  have HWl : Hid (was.length ≤ 1000) := by have := HnH.out; have := Hrl.out; unfold Hid; omega
                  rw [hf] at HW
                  have WF := HW
                  rw [hd]
                  clear HW hni hd hf
                  go_wp2
                  obtain ⟨ScF, hcF⟩ := OF.out.cache
                  have CF := Lib.hid hcF
                  have HEQ : Hid ((now == [at_] ++ (was)) = true) := by rw [hnowW]; exact beq_self_eq_true _
                  clear hcF hnowW
                  refine wp_region_held_drew (S := fun u : World => Below wr.heap.size wr u) (by kernel_rfl) (Below.refl _ _).drew (fun hHeld => ?_)
                  refine wpAnyH_take (i := 0) (oi := _) (v := ?_) (by simp only [List.getElem?_toArray, List.getElem?_cons_zero]; rfl) (by kernel_rfl) (by kernel_rfl) (by kernel_rfl) (by exact fun _ _ _ h => h) (Or.inl ⟨by rfl, ?hyfbb0⟩) ((Below.refl _ _).drew) ?refbb0
                  case hyfbb0 => (intro u hSw; have e1 : u.cell? ⟨gb, 1, none⟩ = some (.int .i64 at_) := (BF.out.below hSw BF.out.lt).cell 1; clear hSw; go_simp <;> with_reducible rfl)
                  try simp only [Act.put, List.setIfInBounds_toArray, List.set_cons_zero, List.set_cons_succ]
                  refine wpAnyH_take (i := 2) (oi := _) (v := ?_) (by simp only [List.getElem?_toArray, List.getElem?_cons_succ, List.getElem?_cons_zero]; rfl) (by kernel_rfl) (by kernel_rfl) (by kernel_rfl) (by exact fun _ _ _ h => h) (Or.inl ⟨by rfl, ?hyfbb2⟩) ((Below.refl _ _).drew) ?refbb2
                  case hyfbb2 => (intro u hSw; have e1 : u.cell? ⟨gb, 1, none⟩ = some (.int .i64 at_) := (BF.out.below hSw BF.out.lt).cell 1; clear hSw; go_simp <;> with_reducible rfl)
                  try simp only [Act.put, List.setIfInBounds_toArray, List.set_cons_zero, List.set_cons_succ]
                  refine wpAnyH_take (i := 3) (oi := _) (v := ?_) (by simp only [List.getElem?_toArray, List.getElem?_cons_succ, List.getElem?_cons_zero]; rfl) (by kernel_rfl) (by kernel_rfl) (by kernel_rfl) (by exact fun _ _ _ h => h) (Or.inl ⟨by rfl, ?hyfbb3⟩) ((Below.refl _ _).drew) ?refbb3
                  case hyfbb3 => (intro u hSw; have e1 : u.cell? ⟨gb, 1, none⟩ = some (.int .i64 at_) := (BF.out.below hSw BF.out.lt).cell 1; clear hSw; go_simp <;> with_reducible rfl)
                  try simp only [Act.put, List.setIfInBounds_toArray, List.set_cons_zero, List.set_cons_succ]
                  refine wpAnyH_take (i := 5) (oi := _) (v := ?_) (by simp only [List.getElem?_toArray, List.getElem?_cons_succ, List.getElem?_cons_zero]; rfl) (by kernel_rfl) (by kernel_rfl) (by kernel_rfl) (by exact fun _ _ _ h => h) (Or.inl ⟨by rfl, ?hyfbb5⟩) ((Below.refl _ _).drew) ?refbb5
                  case hyfbb5 => (intro u hSw; have e1 : u.cell? ⟨gb, 1, none⟩ = some (.int .i64 at_) := (BF.out.below hSw BF.out.lt).cell 1; clear hSw; go_simp <;> with_reducible rfl)
                  try simp only [Act.put, List.setIfInBounds_toArray, List.set_cons_zero, List.set_cons_succ]
                  refine wpAnyH_ready (rs := [1, 4]) (by kernel_rfl) (by simp) ?_
                  refine AllReadyH.cons (o := _) (by simp only [List.getElem?_toArray, List.getElem?_cons_succ, List.getElem?_cons_zero]; rfl) (fun K hK => ?_) (AllReadyH.cons (o := _) (by simp only [List.getElem?_toArray, List.getElem?_cons_succ, List.getElem?_cons_zero]; rfl) (fun K hK => ?_) (AllReadyH.nil))
                  · go_simp
                    refine (has_cached (CF.out.below (Below.refl _ _).drew) CT.out.fine.len).mono ?_
                    rintro e w7 ⟨v7, rfl, hI, hb⟩
                    have hT7 : Below wr.heap.size wr w7 := (Below.refl _ wr).drew.trans (hb.mono (Nat.le_refl _))
                    have hI7 : Ints w7 0 v7 now := by rw [Hnow.out]; exact hI.more (Nat.zero_le _)
                    have HT7 := Lib.hid hT7
                    have HI7 := Lib.hid hI7
                    clear hT7 hI7 hI hb
                    go_simp
                    refine hK.out _ _ HT7.out (fun hHeld2 => ?_)
                    refine held_strong (T := fun u => Ints u 0 v7 now ∧ Below wr.heap.size wr u) (by rintro _ ⟨_, h⟩; exact h) _ _ _ _ ?_
                    clear hK K hHeld2
                    refine wpAnyH_ready (rs := [4]) (by kernel_rfl) (by simp) ?_
                    refine AllReadyH.cons (o := _) (by simp only [List.getElem?_toArray, List.getElem?_cons_succ, List.getElem?_cons_zero]; rfl) (fun K hK => ?_) AllReadyH.nil
                    go_simp
                    have hbz : Below w7.heap.size w7 (w7.alloc (.cells #[.int .i64 at_] 3)) := (Below.refl _ _).alloc (Nat.le_refl _) _
                    have hJ : Ints (w7.alloc (.cells #[.int .i64 at_] 3)) 0 (.slice (some ⟨w7.heap.size, 0, none⟩) 1 1) [at_] := ints_one w7 0 at_ (Nat.zero_le _)
                    have hT : Ints (w7.alloc (.cells #[.int .i64 at_] 3)) 0 v7 now ∧ Below wr.heap.size wr (w7.alloc (.cells #[.int .i64 at_] 3)) := ⟨HI7.out.below hbz, HT7.out.trans (hbz.mono HT7.out.size)⟩
                    have hne : ∀ g, v7.ownBlock = some g → w7.heap.size ≠ g := fun g hg e => by have := (HI7.out.lt hg).1; omega
                    have HJ := Lib.hid hJ
                    have HT := Lib.hid hT
                    have Hne := Lib.hid hne
                    have Hgq : Hid (wr.heap.size ≤ w7.heap.size) := HT7.out.size
                    clear hbz hJ hT hne
                    refine hK.out _ _ HT.out (fun hHeld2 => ?_)
                    clear hK K hHeld2
                    obtain ⟨gq, hgq⟩ : ∃ gq, gq = w7.heap.size := ⟨_, rfl⟩
                    rw [← hgq] at HJ Hne Hgq ⊢
                    generalize w7.alloc (.cells #[.int .i64 at_] 3) = w8 at *
                    clear hgq
                    refine wpAnyH_ready (rs := [6]) (by kernel_rfl) (by simp) ?_
                    refine AllReadyH.cons (o := _) (by simp only [List.getElem?_toArray, List.getElem?_cons_succ, List.getElem?_cons_zero]; rfl) (fun K hK => ?_) AllReadyH.nil
                    refine wp_app (.tmp 156) (.tmp 157) rfl 0 _ [at_] rfl HJ.out _ (was) rfl (WF.out.below HT.out.2).reads (by simp only [List.length_cons, List.length_nil]; have := HWl.out; omega) (Nat.zero_le _) ?_
                    intro v9 w9 hI9 hg9
                    have hT9 : Ints w9 0 v7 now ∧ Below wr.heap.size wr w9 := ⟨HT.out.1.keep fun g hg => hg9.block g (HT.out.1.lt hg).1 fun e => by injection e with e; exact Hne.out g hg e.symm, HT.out.2.grown hg9 HT.out.2.size fun t ht => by cases ht; exact Hgq.out⟩
                    have HT9 := Lib.hid hT9
                    have HI9 := Lib.hid hI9
                    clear hT9 hI9 hg9
                    refine hK.out _ _ HT9.out (fun hHeld3 => ?_)
                    clear hK K hHeld3
                    refine wpAnyH_ready (rs := [7]) (by kernel_rfl) (by simp) ?_
                    refine AllReadyH.cons (o := _) (by simp only [List.getElem?_toArray, List.getElem?_cons_succ, List.getElem?_cons_zero]; rfl) (fun K hK => ?_) AllReadyH.nil
                    go_simp
                    refine (same_ints HT9.out.1 HI9.out).mono ?_
                    rintro e w10 ⟨rfl, hb⟩
                    have hT10 : Ints w10 0 v7 now ∧ Below wr.heap.size wr w10 := ⟨HT9.out.1.below hb, HT9.out.2.trans (hb.mono HT9.out.2.size)⟩
                    have HT10 := Lib.hid hT10
                    clear hT10 hb
                    rw [HEQ.out]
                    go_simp
                    refine hK.out _ _ HT10.out (fun hHeld3 => ?_)
                    clear hK K hHeld3
                    refine wpAnyH_take (i := 8) (oi := _) (v := ?_) (by simp only [List.getElem?_toArray, List.getElem?_cons_succ, List.getElem?_cons_zero]; rfl) (by kernel_rfl) (by kernel_rfl) (by kernel_rfl) (by exact fun _ _ _ h => h) (Or.inl ⟨by rfl, ?hyfbbp8⟩) (HT10.out) ?refbbp8
                    case hyfbbp8 => (intro u hSw; clear hSw; go_simp <;> with_reducible rfl)
                    try simp only [Act.put, List.setIfInBounds_toArray, List.set_cons_zero, List.set_cons_succ]
                    refine wpAnyH_done (by kernel_rfl) ?_ _
                    go_wp2
                    go_roundw
                    case rel => exact ⟨j + 1, V', L', k', S', pn, pt, m2, by omega, by go_num, OF.out.below HT10.out.2, CT.out, MF.out.keep (HT10.out.2.block gm MF.out.lt), HPT.out, by omega, NT.out, LF.out.trans (HT10.out.2.mono LF.out.size)⟩
                    case measure => simp [intOf]; omega
                  · go_simp
                    have hbz : Below wr.heap.size wr ((wr.alloc (.cells #[.int .i64 at_] 3)).drew) := ((Below.refl _ _).alloc (Nat.le_refl _) _).drew
                    have hJ : Ints ((wr.alloc (.cells #[.int .i64 at_] 3)).drew) 0 (.slice (some ⟨wr.heap.size, 0, none⟩) 1 1) [at_] := (ints_one _ 0 at_ (Nat.zero_le _)).below (Below.refl _ _).drew
                    have HJ0 := Lib.hid hJ
                    have HT0 := Lib.hid hbz
                    have Hgq : Hid (wr.heap.size ≤ wr.heap.size) := Nat.le_refl _
                    have hgl : wr.heap.size < ((wr.alloc (.cells #[.int .i64 at_] 3)).drew).heap.size := by simp
                    clear hbz hJ
                    refine hK.out _ _ HT0.out (fun hHeld2 => ?_)
                    clear hK K hHeld2
                    have Hgl := Lib.hid hgl
                    clear hgl
                    generalize (wr.alloc (.cells #[.int .i64 at_] 3)).drew = w7 at *
                    refine wpAnyH_ready (rs := [1]) (by kernel_rfl) (by simp) ?_
                    refine AllReadyH.cons (o := _) (by simp only [List.getElem?_toArray, List.getElem?_cons_succ, List.getElem?_cons_zero]; rfl) (fun K hK => ?_) AllReadyH.nil
                    go_simp
                    refine (has_cached (CF.out.below HT0.out) CT.out.fine.len).mono ?_
                    rintro e w8 ⟨v7, rfl, hI, hb⟩
                    have hT : Ints w8 0 v7 now ∧ Below wr.heap.size wr w8 := ⟨by rw [Hnow.out]; exact hI.more (Nat.zero_le _), HT0.out.trans (hb.mono HT0.out.size)⟩
                    have hne : ∀ g, v7.ownBlock = some g → wr.heap.size ≠ g := fun g hg e => by have := (hI.lt hg).2.1; have := Hgl.out; omega
                    have HT := Lib.hid hT
                    have Hne := Lib.hid hne
                    have HJ := Lib.hid (HJ0.out.below hb)
                    clear hI hb hT hne HJ0 HT0
                    go_simp
                    refine hK.out _ _ HT.out.2 (fun hHeld2 => ?_)
                    refine held_strong (T := fun u => Ints u 0 v7 now ∧ Below wr.heap.size wr u) (by rintro _ ⟨_, h⟩; exact h) _ _ _ _ ?_
                    clear hK K hHeld2
                    refine wpAnyH_ready (rs := [6]) (by kernel_rfl) (by simp) ?_
                    refine AllReadyH.cons (o := _) (by simp only [List.getElem?_toArray, List.getElem?_cons_succ, List.getElem?_cons_zero]; rfl) (fun K hK => ?_) AllReadyH.nil
                    refine wp_app (.tmp 156) (.tmp 157) rfl 0 _ [at_] rfl HJ.out _ (was) rfl (WF.out.below HT.out.2).reads (by simp only [List.length_cons, List.length_nil]; have := HWl.out; omega) (Nat.zero_le _) ?_
                    intro v9 w9 hI9 hg9
                    have hT9 : Ints w9 0 v7 now ∧ Below wr.heap.size wr w9 := ⟨HT.out.1.keep fun g hg => hg9.block g (HT.out.1.lt hg).1 fun e => by injection e with e; exact Hne.out g hg e.symm, HT.out.2.grown hg9 HT.out.2.size fun t ht => by cases ht; exact Hgq.out⟩
                    have HT9 := Lib.hid hT9
                    have HI9 := Lib.hid hI9
                    clear hT9 hI9 hg9
                    refine hK.out _ _ HT9.out (fun hHeld3 => ?_)
                    clear hK K hHeld3
                    refine wpAnyH_ready (rs := [7]) (by kernel_rfl) (by simp) ?_
                    refine AllReadyH.cons (o := _) (by simp only [List.getElem?_toArray, List.getElem?_cons_succ, List.getElem?_cons_zero]; rfl) (fun K hK => ?_) AllReadyH.nil
                    go_simp
                    refine (same_ints HT9.out.1 HI9.out).mono ?_
                    rintro e w10 ⟨rfl, hb⟩
                    have hT10 : Ints w10 0 v7 now ∧ Below wr.heap.size wr w10 := ⟨HT9.out.1.below hb, HT9.out.2.trans (hb.mono HT9.out.2.size)⟩
                    have HT10 := Lib.hid hT10
                    clear hT10 hb
                    rw [HEQ.out]
                    go_simp
                    refine hK.out _ _ HT10.out (fun hHeld3 => ?_)
                    clear hK K hHeld3
                    refine wpAnyH_take (i := 8) (oi := _) (v := ?_) (by simp only [List.getElem?_toArray, List.getElem?_cons_succ, List.getElem?_cons_zero]; rfl) (by kernel_rfl) (by kernel_rfl) (by kernel_rfl) (by exact fun _ _ _ h => h) (Or.inl ⟨by rfl, ?hyfbbq8⟩) (HT10.out) ?refbbq8
                    case hyfbbq8 => (intro u hSw; clear hSw; go_simp <;> with_reducible rfl)
                    try simp only [Act.put, List.setIfInBounds_toArray, List.set_cons_zero, List.set_cons_succ]
                    refine wpAnyH_done (by kernel_rfl) ?_ _
                    go_wp2
                    go_roundw
                    case rel => exact ⟨j + 1, V', L', k', S', pn, pt, m2, by omega, by go_num, OF.out.below HT10.out.2, CT.out, MF.out.keep (HT10.out.2.block gm MF.out.lt), HPT.out, by omega, NT.out, LF.out.trans (HT10.out.2.mono LF.out.size)⟩
                    case measure => simp [intOf]; omega
                · have hd : decide (at_ ∈ was) = false := decide_eq_false hni
                  have hf : was.filter (fun a => decide (a ≠ at_)) = was := List.filter_eq_self.2 fun a ha => by
                    have : a ≠ at_ := fun e => hni (e ▸ ha)
                    simp [this]
                  rw [hf] at HW
                  rw [hd]
                  clear hni hd hf
                  have hpos : 0 < was.length := by rw [hXY, List.length_append, List.length_cons]; omega
                  obtain ⟨gw, cw', hu, -, -⟩ := HW.out.get hpos
                  clear hpos
                  have hcells : ∀ i, (hi : i < was.length) → wr.cell? ⟨gw, i, none⟩ = some (.int .i64 was[i]) := fun i hi => by
                    obtain ⟨g', c', e1, h1, _⟩ := HW.out.get hi
                    rw [hu] at e1
                    injection e1 with e1
                    injection e1 with e1
                    injection e1 with e1
                    subst e1
                    exact h1
                  rw [← HnH.out] at hu
                  subst hu
                  obtain ⟨Ax, cx, hcw1, hcw2, hcw3⟩ := HW.out.len
                  obtain rfl : cw' = cx := by injection hcw1
                  rw [← HnH.out] at hcw2
                  clear hcw1
                  unfold maxLen at hcw3
                  obtain ⟨x0, hx0⟩ : ∃ x0, x0 = X.length := ⟨_, rfl⟩
                  obtain ⟨y0, hy0⟩ : ∃ y0, y0 = Y.length := ⟨_, rfl⟩
                  have hj2 : j2 = x0 + 1 + y0 := by rw [HnH.out, hXY, hx0, hy0]; simp; omega
                  have HY : Hid (∀ p, p < y0 → ∃ y, wr.cell? ⟨gw, x0 + (p + 1), none⟩ = some (.int .i64 y) ∧ 0 < pn y ∧ I64 y) := fun p hp => by
                    have hl : x0 + (p + 1) < was.length := by rw [← HnH.out]; omega
                    have hpy : p < Y.length := by omega
                    refine ⟨was[x0 + (p + 1)], hcells _ hl, ?_⟩
                    have e1 : was[x0 + (p + 1)] = Y[p] := by
                      have : was[x0 + (p + 1)]? = some Y[p] := by
                        rw [hXY, hx0, List.getElem?_append_right (by omega)]
                        have : X.length + (p + 1) - X.length = p + 1 := by omega
                        rw [this, List.getElem?_cons_succ, List.getElem?_eq_getElem hpy]
                      rw [List.getElem?_eq_getElem hl] at this
                      injection this
                    exact ⟨by rw [e1]; exact hY _ (List.getElem_mem hpy), HwI.out _ (List.getElem_mem hl)⟩
                  have HE : Hid (wr.cell? ⟨gw, x0, none⟩ = some (.int .i64 e0) ∧ I64 e0) := by
                    have hl : x0 < was.length := by rw [← HnH.out]; omega
                    have e1 : was[x0] = e0 := by
                      have : was[x0]? = some e0 := by rw [hXY, hx0, List.getElem?_append_right (by omega), Nat.sub_self]; rfl
                      rw [List.getElem?_eq_getElem hl] at this
                      injection this
                    exact ⟨e1 ▸ hcells _ hl, e1 ▸ HwI.out _ (List.getElem_mem hl)⟩
                  have HXY := Lib.hid hXY
                  have Hx0 := Lib.hid hx0
                  have He0 := Lib.hid he0
                  obtain rfl : j2 = rm := by have := HnH.out; omega
                  obtain ⟨s0, hs0⟩ : ∃ s0, s0 = x0 + y0 := ⟨_, rfl⟩
                  have hw2 : wrap64 ((j2 : Int) - 1) = (s0 : Int) := by unfold wrap64; omega
                  have hst2 : (j2 : Int) - 1 = (s0 : Int) := by omega
                  have Hs0 := Lib.hid hs0
                  obtain ⟨x1, hx1⟩ : ∃ x1, x1 = x0 + 1 := ⟨_, rfl⟩
                  have HX : Hid (wrap64 ((x0 : Int) + 1) = (x1 : Int) ∧ (x0 : Int) + 1 = (x1 : Int) ∧ x0 ≤ cw' ∧ IntKind.i64.wrap (x1 : Int) = (x1 : Int) ∧ x1 ≤ j2) := by
                    have e1 : x0 ≤ cw' := by omega
                    have e2 : x1 ≤ j2 := by omega
                    have e3 : (x1 : Int) ≤ 9223372036854775807 := by omega
                    refine ⟨by unfold wrap64; omega, by omega, e1, ?_, e2⟩
                    rw [IntKind.wrap_i64]
                    omega
                  have HRX : Hid (∀ u, Below wr.heap.size wr u → Reads u (.slice (some ⟨gw, 0, none⟩) x0 cw') X) := fun u hb => by
                    have h1 := (HW.out.below hb).part HnH.out 0 x0 (Nat.zero_le _) (by omega) cw' x0 rfl
                    have e : (was.take x0).drop 0 = X := by rw [hXY, hx0]; simp
                    rwa [e] at h1
                  have HRY : Hid (∀ u, Below wr.heap.size wr u → Reads u (.slice (if cw' = x1 then some ⟨gw, 0, none⟩ else some ⟨gw, x1, none⟩) (j2 - x1) (cw' - x1)) Y) := fun u hb => by
                    split
                    · have hY0 : Y = [] := List.length_eq_zero_iff.1 (by omega)
                      have h0 : j2 - x1 = 0 := by omega
                      rw [h0, hY0]
                      exact .inr ⟨gw, 0, _, rfl, fun j hj => absurd hj (Nat.not_lt_zero _)⟩
                    · have h1 := (HW.out.below hb).part HnH.out x1 j2 (by omega) (Nat.le_refl _) (cw' - x1) (j2 - x1) rfl
                      have e : (was.take j2).drop x1 = Y := by
                        rw [List.take_of_length_le (by rw [← HnH.out]; exact Nat.le_refl _), hXY, hx1, hx0, ← List.drop_drop, List.drop_left]
                        rfl
                      rwa [e] at h1
                  have HWl : Hid ((X ++ Y).length ≤ 1000) := by unfold Hid; rw [List.length_append]; have := Hrl.out; omega
                  have Hx1 := Lib.hid hx1
                  clear hx1
                  have Hj2 := Lib.hid hj2
                  have HnowW := Lib.hid hnowW
                  clear hcells hXY hx0 hy0 he0 hY hnowW hs0 hj2
                  go_wp2
                  go_loopw [21] (fun i wx => ∃ p q1 : Nat, p ≤ y0 ∧ q1 = x0 + p ∧ i = .int .i64 (q1 : Int) ∧ wx = wr) (fun i _ => (intOf i).toNat)
                  case atStart => exact ⟨y0, s0, Nat.le_refl _, Hs0.out, by first | trivial | rfl | exact congrArg (Value.int .i64) hst2, rfl⟩
                  case round =>
                    obtain ⟨p, q1, hp, hq1, rfl, rfl⟩ := hrel
                    have Hq1 := Lib.hid hq1
                    have hge : ¬ ((q1 : Int) < 0) := by omega
                    have hlt5 : q1 < j2 := by have := Hj2.out; omega
                    have hlt4 : (q1 : Int) < (j2 : Int) := by omega
                    clear hq1
                    rcases Nat.eq_zero_or_pos p with rfl | hpp
                    · obtain rfl : x0 = q1 := Hq1.out.symm
                      have hE := HE.out.1
                      have hlk := (MF.out.look intE Try.underlying54 HE.out.2).1
                      rw [He0.out] at hlk
                      go_wp2
                      obtain ⟨hp1, hp2, hxc, hwx, hx1j⟩ := HX.out
                      refine wp_region_held_drew (S := fun u : World => Below wr.heap.size wr u) (by kernel_rfl) (Below.refl _ _).drew (fun hHeld => ?_)
                      refine wpAnyH_take (i := 1) (oi := _) (v := ?_) (by simp only [List.getElem?_toArray, List.getElem?_cons_succ, List.getElem?_cons_zero]; rfl) (by kernel_rfl) (by kernel_rfl) (by kernel_rfl) (by exact fun _ _ _ h => h) (Or.inl ⟨by rfl, ?hyrb1⟩) ((Below.refl _ _).drew) ?rerb1
                      case hyrb1 => (intro u hSw; clear hSw; go_simp <;> with_reducible rfl)
                      try simp only [Act.put, List.setIfInBounds_toArray, List.set_cons_zero, List.set_cons_succ]
                      refine wpAnyH_take (i := 2) (oi := _) (v := ?_) (by simp only [List.getElem?_toArray, List.getElem?_cons_succ, List.getElem?_cons_zero]; rfl) (by kernel_rfl) (by kernel_rfl) (by kernel_rfl) (by exact fun _ _ _ h => h) (Or.inl ⟨by rfl, ?hyrb2⟩) ((Below.refl _ _).drew) ?rerb2
                      case hyrb2 => (intro u hSw; clear hSw; go_simp <;> with_reducible rfl)
                      try simp only [Act.put, List.setIfInBounds_toArray, List.set_cons_zero, List.set_cons_succ]
                      refine wpAnyH_take (i := 3) (oi := _) (v := ?_) (by simp only [List.getElem?_toArray, List.getElem?_cons_succ, List.getElem?_cons_zero]; rfl) (by kernel_rfl) (by kernel_rfl) (by kernel_rfl) (by exact fun _ _ _ h => h) (Or.inl ⟨by rfl, ?hyrb3⟩) ((Below.refl _ _).drew) ?rerb3
                      case hyrb3 => (intro u hSw; clear hSw; go_simp <;> with_reducible rfl)
                      try simp only [Act.put, List.setIfInBounds_toArray, List.set_cons_zero, List.set_cons_succ]
                      refine wpAnyH_take (i := 5) (oi := _) (v := ?_) (by simp only [List.getElem?_toArray, List.getElem?_cons_succ, List.getElem?_cons_zero]; rfl) (by kernel_rfl) (by kernel_rfl) (by kernel_rfl) (by exact fun _ _ _ h => h) (Or.inl ⟨by rfl, ?hyrb5⟩) ((Below.refl _ _).drew) ?rerb5
                      case hyrb5 => (intro u hSw; clear hSw; go_simp <;> with_reducible rfl)
                      try simp only [Act.put, List.setIfInBounds_toArray, List.set_cons_zero, List.set_cons_succ]
                      refine wpAnyH_take (i := 6) (oi := _) (v := ?_) (by simp only [List.getElem?_toArray, List.getElem?_cons_succ, List.getElem?_cons_zero]; rfl) (by kernel_rfl) (by kernel_rfl) (by kernel_rfl) (by exact fun _ _ _ h => h) (Or.inl ⟨by rfl, ?hyrb6⟩) ((Below.refl _ _).drew) ?rerb6
                      case hyrb6 => (intro u hSw; clear hSw; go_simp <;> with_reducible rfl)
                      try simp only [Act.put, List.setIfInBounds_toArray, List.set_cons_zero, List.set_cons_succ]
                      refine wpAnyH_take (i := 7) (oi := _) (v := ?_) (by simp only [List.getElem?_toArray, List.getElem?_cons_succ, List.getElem?_cons_zero]; rfl) (by kernel_rfl) (by kernel_rfl) (by kernel_rfl) (by exact fun _ _ _ h => h) (Or.inl ⟨by rfl, ?hyrb7⟩) ((Below.refl _ _).drew) ?rerb7
                      case hyrb7 => (intro u hSw; clear hSw; go_simp <;> with_reducible rfl)
                      try simp only [Act.put, List.setIfInBounds_toArray, List.set_cons_zero, List.set_cons_succ]
                      refine wpAnyH_take (i := 8) (oi := _) (v := ?_) (by simp only [List.getElem?_toArray, List.getElem?_cons_succ, List.getElem?_cons_zero]; rfl) (by kernel_rfl) (by kernel_rfl) (by kernel_rfl) (by exact fun _ _ _ h => h) (Or.inl ⟨by rfl, ?hyrb8⟩) ((Below.refl _ _).drew) ?rerb8
                      case hyrb8 => (intro u hSw; clear hSw; go_simp <;> with_reducible rfl)
                      try simp only [Act.put, List.setIfInBounds_toArray, List.set_cons_zero, List.set_cons_succ]
                      refine wpAnyH_ready (rs := [0]) (by kernel_rfl) (by simp) ?_
                      refine AllReadyH.cons (o := _) (by simp only [List.getElem?_toArray, List.getElem?_cons_zero]; rfl) (fun K hK => ?_) AllReadyH.nil
                      go_simp
                      have hbz : Below wr.heap.size wr ((wr.alloc (.cells #[] 3)).drew) := ((Below.refl _ _).alloc (Nat.le_refl _) _).drew
                      have hJ : Ints ((wr.alloc (.cells #[] 3)).drew) wr.heap.size (.slice (some ⟨wr.heap.size, 0, none⟩) 0 0) [] := Ints.below (Bk.own (Bk.new wr 3 []) 0 rfl (Nat.le_refl _) (by unfold maxLen; omega)) (Below.refl _ _).drew
                      have HJ0 := Lib.hid hJ
                      have HT0 := Lib.hid hbz
                      clear hbz hJ
                      refine hK.out _ _ HT0.out (fun hHeld2 => ?_)
                      clear hK K hHeld2
                      generalize (wr.alloc (.cells #[] 3)).drew = w7 at *
                      refine wpAnyH_ready (rs := [4]) (by kernel_rfl) (by simp) ?_
                      refine AllReadyH.cons (o := _) (by simp only [List.getElem?_toArray, List.getElem?_cons_succ, List.getElem?_cons_zero]; rfl) (fun K hK => ?_) AllReadyH.nil
                      refine wp_app (.tmp 142) (.tmp 145) rfl wr.heap.size _ [] rfl HJ0.out _ X rfl (HRX.out _ HT0.out) (by have := HWl.out; rw [List.length_append] at this; simp only [List.length_nil]; omega) HT0.out.size ?_
                      intro v8 w8 hI8 hg8
                      have hT8 : Below wr.heap.size wr w8 := HT0.out.grown hg8 HT0.out.size fun t ht => by cases ht; exact Nat.le_refl _
                      have HI8 := Lib.hid hI8
                      have HT8 := Lib.hid hT8
                      clear hI8 hT8 hg8
                      refine hK.out _ _ HT8.out (fun hHeld2 => ?_)
                      clear hK K hHeld2
                      refine wpAnyH_ready (rs := [9]) (by kernel_rfl) (by simp) ?_
                      refine AllReadyH.cons (o := _) (by simp only [List.getElem?_toArray, List.getElem?_cons_succ, List.getElem?_cons_zero]; rfl) (fun K hK => ?_) AllReadyH.nil
                      refine wp_app (.tmp 146) (.tmp 150) rfl wr.heap.size v8 _ rfl HI8.out _ Y rfl (HRY.out _ HT8.out) (by have := HWl.out; rw [List.length_append] at this; rw [List.nil_append]; omega) HT8.out.size ?_
                      intro vc wc hI9 hg9
                      have hT9 : Below wr.heap.size wr wc := HT8.out.grown hg9 HT8.out.size fun g hg => (HI8.out.lt hg).2.1
                      rw [List.nil_append] at hI9
                      have WF := Lib.hid hI9
                      have HT9 := Lib.hid hT9
                      clear hI9 hT9 hg9
                      refine hK.out _ _ HT9.out (fun hHeld2 => ?_)
                      clear hK K hHeld2 hHeld
                      refine wpAnyH_take (i := 10) (oi := _) (v := ?_) (by simp only [List.getElem?_toArray, List.getElem?_cons_succ, List.getElem?_cons_zero]; rfl) (by kernel_rfl) (by kernel_rfl) (by kernel_rfl) (by exact fun _ _ _ h => h) (Or.inl ⟨by rfl, ?hysb10⟩) (HT9.out) ?resb10
                      case hysb10 => (intro u hSw; clear hSw; go_simp <;> with_reducible rfl)
                      try simp only [Act.put, List.setIfInBounds_toArray, List.set_cons_zero, List.set_cons_succ]
                      refine wpAnyH_done (by kernel_rfl) ?_ _
                      have OF := Lib.hid (OF.out.below HT9.out)
                      have BF := Lib.hid (BF.out.below HT9.out BF.out.lt)
                      have LF := Lib.hid (LF.out.trans (HT9.out.mono LF.out.size))
                      have MF := Lib.hid (MF.out.keep (HT9.out.block gm MF.out.lt))
                      have hnowW := HnowW.out
                      generalize (if cw' = x1 then some (⟨gw, 0, none⟩ : Addr) else some ⟨gw, x1, none⟩) = ax at *
                      clear HT0 HJ0 HI8 HT8 HRX HRY HW hE hlk hp1 hp2 hxc hwx hx1j HX hge hlt4 hlt5
                      go_wp2
                      obtain ⟨ScF, hcF⟩ := OF.out.cache
                      have CF := Lib.hid hcF
                      have HEQ : Hid ((now == [at_] ++ (X ++ Y)) = true) := by rw [hnowW]; exact beq_self_eq_true _
                      clear hcF hnowW
                      refine wp_region_held_drew (S := fun u : World => Below wc.heap.size wc u) (by kernel_rfl) (Below.refl _ _).drew (fun hHeld => ?_)
                      refine wpAnyH_take (i := 0) (oi := _) (v := ?_) (by simp only [List.getElem?_toArray, List.getElem?_cons_zero]; rfl) (by kernel_rfl) (by kernel_rfl) (by kernel_rfl) (by exact fun _ _ _ h => h) (Or.inl ⟨by rfl, ?hyfbc0⟩) ((Below.refl _ _).drew) ?refbc0
                      case hyfbc0 => (intro u hSw; have e1 : u.cell? ⟨gb, 1, none⟩ = some (.int .i64 at_) := (BF.out.below hSw BF.out.lt).cell 1; clear hSw; go_simp <;> with_reducible rfl)
                      try simp only [Act.put, List.setIfInBounds_toArray, List.set_cons_zero, List.set_cons_succ]
                      refine wpAnyH_take (i := 2) (oi := _) (v := ?_) (by simp only [List.getElem?_toArray, List.getElem?_cons_succ, List.getElem?_cons_zero]; rfl) (by kernel_rfl) (by kernel_rfl) (by kernel_rfl) (by exact fun _ _ _ h => h) (Or.inl ⟨by rfl, ?hyfbc2⟩) ((Below.refl _ _).drew) ?refbc2
                      case hyfbc2 => (intro u hSw; have e1 : u.cell? ⟨gb, 1, none⟩ = some (.int .i64 at_) := (BF.out.below hSw BF.out.lt).cell 1; clear hSw; go_simp <;> with_reducible rfl)
                      try simp only [Act.put, List.setIfInBounds_toArray, List.set_cons_zero, List.set_cons_succ]
                      refine wpAnyH_take (i := 3) (oi := _) (v := ?_) (by simp only [List.getElem?_toArray, List.getElem?_cons_succ, List.getElem?_cons_zero]; rfl) (by kernel_rfl) (by kernel_rfl) (by kernel_rfl) (by exact fun _ _ _ h => h) (Or.inl ⟨by rfl, ?hyfbc3⟩) ((Below.refl _ _).drew) ?refbc3
                      case hyfbc3 => (intro u hSw; have e1 : u.cell? ⟨gb, 1, none⟩ = some (.int .i64 at_) := (BF.out.below hSw BF.out.lt).cell 1; clear hSw; go_simp <;> with_reducible rfl)
                      try simp only [Act.put, List.setIfInBounds_toArray, List.set_cons_zero, List.set_cons_succ]
                      refine wpAnyH_take (i := 5) (oi := _) (v := ?_) (by simp only [List.getElem?_toArray, List.getElem?_cons_succ, List.getElem?_cons_zero]; rfl) (by kernel_rfl) (by kernel_rfl) (by kernel_rfl) (by exact fun _ _ _ h => h) (Or.inl ⟨by rfl, ?hyfbc5⟩) ((Below.refl _ _).drew) ?refbc5
                      case hyfbc5 => (intro u hSw; have e1 : u.cell? ⟨gb, 1, none⟩ = some (.int .i64 at_) := (BF.out.below hSw BF.out.lt).cell 1; clear hSw; go_simp <;> with_reducible rfl)
                      try simp only [Act.put, List.setIfInBounds_toArray, List.set_cons_zero, List.set_cons_succ]
                      refine wpAnyH_ready (rs := [1, 4]) (by kernel_rfl) (by simp) ?_
                      refine AllReadyH.cons (o := _) (by simp only [List.getElem?_toArray, List.getElem?_cons_succ, List.getElem?_cons_zero]; rfl) (fun K hK => ?_) (AllReadyH.cons (o := _) (by simp only [List.getElem?_toArray, List.getElem?_cons_succ, List.getElem?_cons_zero]; rfl) (fun K hK => ?_) (AllReadyH.nil))
                      · go_simp
                        refine (has_cached (CF.out.below (Below.refl _ _).drew) CT.out.fine.len).mono ?_
                        rintro e w7 ⟨v7, rfl, hI, hb⟩
                        have hT7 : Below wc.heap.size wc w7 := (Below.refl _ wc).drew.trans (hb.mono (Nat.le_refl _))
                        have hI7 : Ints w7 0 v7 now := by rw [Hnow.out]; exact hI.more (Nat.zero_le _)
                        have HT7 := Lib.hid hT7
                        have HI7 := Lib.hid hI7
                        clear hT7 hI7 hI hb
                        go_simp
                        refine hK.out _ _ HT7.out (fun hHeld2 => ?_)
                        refine held_strong (T := fun u => Ints u 0 v7 now ∧ Below wc.heap.size wc u) (by rintro _ ⟨_, h⟩; exact h) _ _ _ _ ?_
                        clear hK K hHeld2
                        refine wpAnyH_ready (rs := [4]) (by kernel_rfl) (by simp) ?_
                        refine AllReadyH.cons (o := _) (by simp only [List.getElem?_toArray, List.getElem?_cons_succ, List.getElem?_cons_zero]; rfl) (fun K hK => ?_) AllReadyH.nil
                        go_simp
                        have hbz : Below w7.heap.size w7 (w7.alloc (.cells #[.int .i64 at_] 3)) := (Below.refl _ _).alloc (Nat.le_refl _) _
                        have hJ : Ints (w7.alloc (.cells #[.int .i64 at_] 3)) 0 (.slice (some ⟨w7.heap.size, 0, none⟩) 1 1) [at_] := ints_one w7 0 at_ (Nat.zero_le _)
                        have hT : Ints (w7.alloc (.cells #[.int .i64 at_] 3)) 0 v7 now ∧ Below wc.heap.size wc (w7.alloc (.cells #[.int .i64 at_] 3)) := ⟨HI7.out.below hbz, HT7.out.trans (hbz.mono HT7.out.size)⟩
                        have hne : ∀ g, v7.ownBlock = some g → w7.heap.size ≠ g := fun g hg e => by have := (HI7.out.lt hg).1; omega
                        have HJ := Lib.hid hJ
                        have HT := Lib.hid hT
                        have Hne := Lib.hid hne
                        have Hgq : Hid (wc.heap.size ≤ w7.heap.size) := HT7.out.size
                        clear hbz hJ hT hne
                        refine hK.out _ _ HT.out (fun hHeld2 => ?_)
                        clear hK K hHeld2
                        obtain ⟨gq, hgq⟩ : ∃ gq, gq = w7.heap.size := ⟨_, rfl⟩
                        rw [← hgq] at HJ Hne Hgq ⊢
                        generalize w7.alloc (.cells #[.int .i64 at_] 3) = w8 at *
                        clear hgq
                        refine wpAnyH_ready (rs := [6]) (by kernel_rfl) (by simp) ?_
                        refine AllReadyH.cons (o := _) (by simp only [List.getElem?_toArray, List.getElem?_cons_succ, List.getElem?_cons_zero]; rfl) (fun K hK => ?_) AllReadyH.nil
                        refine wp_app (.tmp 156) (.tmp 157) rfl 0 _ [at_] rfl HJ.out _ (X ++ Y) rfl (WF.out.below HT.out.2).reads (by simp only [List.length_cons, List.length_nil]; have := HWl.out; omega) (Nat.zero_le _) ?_
                        intro v9 w9 hI9 hg9
                        have hT9 : Ints w9 0 v7 now ∧ Below wc.heap.size wc w9 := ⟨HT.out.1.keep fun g hg => hg9.block g (HT.out.1.lt hg).1 fun e => by injection e with e; exact Hne.out g hg e.symm, HT.out.2.grown hg9 HT.out.2.size fun t ht => by cases ht; exact Hgq.out⟩
                        have HT9 := Lib.hid hT9
                        have HI9 := Lib.hid hI9
                        clear hT9 hI9 hg9
                        refine hK.out _ _ HT9.out (fun hHeld3 => ?_)
                        clear hK K hHeld3
                        refine wpAnyH_ready (rs := [7]) (by kernel_rfl) (by simp) ?_
                        refine AllReadyH.cons (o := _) (by simp only [List.getElem?_toArray, List.getElem?_cons_succ, List.getElem?_cons_zero]; rfl) (fun K hK => ?_) AllReadyH.nil
                        go_simp
                        refine (same_ints HT9.out.1 HI9.out).mono ?_
                        rintro e w10 ⟨rfl, hb⟩
                        have hT10 : Ints w10 0 v7 now ∧ Below wc.heap.size wc w10 := ⟨HT9.out.1.below hb, HT9.out.2.trans (hb.mono HT9.out.2.size)⟩
                        have HT10 := Lib.hid hT10
                        clear hT10 hb
                        rw [HEQ.out]
                        go_simp
                        refine hK.out _ _ HT10.out (fun hHeld3 => ?_)
                        clear hK K hHeld3
                        refine wpAnyH_take (i := 8) (oi := _) (v := ?_) (by simp only [List.getElem?_toArray, List.getElem?_cons_succ, List.getElem?_cons_zero]; rfl) (by kernel_rfl) (by kernel_rfl) (by kernel_rfl) (by exact fun _ _ _ h => h) (Or.inl ⟨by rfl, ?hyfbcp8⟩) (HT10.out) ?refbcp8
                        case hyfbcp8 => (intro u hSw; clear hSw; go_simp <;> with_reducible rfl)
                        try simp only [Act.put, List.setIfInBounds_toArray, List.set_cons_zero, List.set_cons_succ]
                        refine wpAnyH_done (by kernel_rfl) ?_ _
                        go_wp2
                        go_roundw
                        case rel => exact ⟨j + 1, V', L', k', S', pn, pt, m2, by omega, by go_num, OF.out.below HT10.out.2, CT.out, MF.out.keep (HT10.out.2.block gm MF.out.lt), HPT.out, by omega, NT.out, LF.out.trans (HT10.out.2.mono LF.out.size)⟩
                        case measure => simp [intOf]; omega
                      · go_simp
                        have hbz : Below wc.heap.size wc ((wc.alloc (.cells #[.int .i64 at_] 3)).drew) := ((Below.refl _ _).alloc (Nat.le_refl _) _).drew
                        have hJ : Ints ((wc.alloc (.cells #[.int .i64 at_] 3)).drew) 0 (.slice (some ⟨wc.heap.size, 0, none⟩) 1 1) [at_] := (ints_one _ 0 at_ (Nat.zero_le _)).below (Below.refl _ _).drew
                        have HJ0 := Lib.hid hJ
                        have HT0 := Lib.hid hbz
                        have Hgq : Hid (wc.heap.size ≤ wc.heap.size) := Nat.le_refl _
                        have hgl : wc.heap.size < ((wc.alloc (.cells #[.int .i64 at_] 3)).drew).heap.size := by simp
                        clear hbz hJ
                        refine hK.out _ _ HT0.out (fun hHeld2 => ?_)
                        clear hK K hHeld2
                        have Hgl := Lib.hid hgl
                        clear hgl
                        generalize (wc.alloc (.cells #[.int .i64 at_] 3)).drew = w7 at *
                        refine wpAnyH_ready (rs := [1]) (by kernel_rfl) (by simp) ?_
                        refine AllReadyH.cons (o := _) (by simp only [List.getElem?_toArray, List.getElem?_cons_succ, List.getElem?_cons_zero]; rfl) (fun K hK => ?_) AllReadyH.nil
                        go_simp
                        refine (has_cached (CF.out.below HT0.out) CT.out.fine.len).mono ?_
                        rintro e w8 ⟨v7, rfl, hI, hb⟩
                        have hT : Ints w8 0 v7 now ∧ Below wc.heap.size wc w8 := ⟨by rw [Hnow.out]; exact hI.more (Nat.zero_le _), HT0.out.trans (hb.mono HT0.out.size)⟩
                        have hne : ∀ g, v7.ownBlock = some g → wc.heap.size ≠ g := fun g hg e => by have := (hI.lt hg).2.1; have := Hgl.out; omega
                        have HT := Lib.hid hT
                        have Hne := Lib.hid hne
                        have HJ := Lib.hid (HJ0.out.below hb)
                        clear hI hb hT hne HJ0 HT0
                        go_simp
                        refine hK.out _ _ HT.out.2 (fun hHeld2 => ?_)
                        refine held_strong (T := fun u => Ints u 0 v7 now ∧ Below wc.heap.size wc u) (by rintro _ ⟨_, h⟩; exact h) _ _ _ _ ?_
                        clear hK K hHeld2
                        refine wpAnyH_ready (rs := [6]) (by kernel_rfl) (by simp) ?_
                        refine AllReadyH.cons (o := _) (by simp only [List.getElem?_toArray, List.getElem?_cons_succ, List.getElem?_cons_zero]; rfl) (fun K hK => ?_) AllReadyH.nil
                        refine wp_app (.tmp 156) (.tmp 157) rfl 0 _ [at_] rfl HJ.out _ (X ++ Y) rfl (WF.out.below HT.out.2).reads (by simp only [List.length_cons, List.length_nil]; have := HWl.out; omega) (Nat.zero_le _) ?_
                        intro v9 w9 hI9 hg9
                        have hT9 : Ints w9 0 v7 now ∧ Below wc.heap.size wc w9 := ⟨HT.out.1.keep fun g hg => hg9.block g (HT.out.1.lt hg).1 fun e => by injection e with e; exact Hne.out g hg e.symm, HT.out.2.grown hg9 HT.out.2.size fun t ht => by cases ht; exact Hgq.out⟩
                        have HT9 := Lib.hid hT9
                        have HI9 := Lib.hid hI9
                        clear hT9 hI9 hg9
                        refine hK.out _ _ HT9.out (fun hHeld3 => ?_)
                        clear hK K hHeld3
                        refine wpAnyH_ready (rs := [7]) (by kernel_rfl) (by simp) ?_
                        refine AllReadyH.cons (o := _) (by simp only [List.getElem?_toArray, List.getElem?_cons_succ, List.getElem?_cons_zero]; rfl) (fun K hK => ?_) AllReadyH.nil
                        go_simp
                        refine (same_ints HT9.out.1 HI9.out).mono ?_
                        rintro e w10 ⟨rfl, hb⟩
                        have hT10 : Ints w10 0 v7 now ∧ Below wc.heap.size wc w10 := ⟨HT9.out.1.below hb, HT9.out.2.trans (hb.mono HT9.out.2.size)⟩
                        have HT10 := Lib.hid hT10
                        clear hT10 hb
                        rw [HEQ.out]
                        go_simp
                        refine hK.out _ _ HT10.out (fun hHeld3 => ?_)
                        clear hK K hHeld3
                        refine wpAnyH_take (i := 8) (oi := _) (v := ?_) (by simp only [List.getElem?_toArray, List.getElem?_cons_succ, List.getElem?_cons_zero]; rfl) (by kernel_rfl) (by kernel_rfl) (by kernel_rfl) (by exact fun _ _ _ h => h) (Or.inl ⟨by rfl, ?hyfbcq8⟩) (HT10.out) ?refbcq8
                        case hyfbcq8 => (intro u hSw; clear hSw; go_simp <;> with_reducible rfl)
                        try simp only [Act.put, List.setIfInBounds_toArray, List.set_cons_zero, List.set_cons_succ]
                        refine wpAnyH_done (by kernel_rfl) ?_ _
                        go_wp2
                        go_roundw
                        case rel => exact ⟨j + 1, V', L', k', S', pn, pt, m2, by omega, by go_num, OF.out.below HT10.out.2, CT.out, MF.out.keep (HT10.out.2.block gm MF.out.lt), HPT.out, by omega, NT.out, LF.out.trans (HT10.out.2.mono LF.out.size)⟩
                        case measure => simp [intOf]; omega
                    · obtain ⟨p', rfl⟩ : ∃ p', p = p' + 1 := ⟨p - 1, by omega⟩
                      obtain ⟨y, hcy, hpy, hyI⟩ := HY.out p' (by omega)
                      rw [← Hq1.out] at hcy
                      have hlk := (MF.out.look intE Try.underlying54 hyI).1
                      obtain ⟨q2, hq2⟩ : ∃ q2, q2 = x0 + p' := ⟨_, rfl⟩
                      have hwp : wrap64 ((q1 : Int) - 1) = (q2 : Int) := by have := Hq1.out; unfold wrap64; omega
                      have hmea : q2 < q1 := by have := Hq1.out; omega
                      have Hq2 := Lib.hid hq2
                      clear hq2
                      go_wp2
                      go_roundw
                      case rel => exact ⟨p', q2, by omega, Hq2.out, by first | trivial | rfl | exact congrArg (Value.int .i64) (by have := Hq1.out; have := Hq2.out; omega), by first | trivial | rfl⟩
                      case measure => simp [intOf]; omega
          · have hLL := put_still hR herr
            clear hst hO O1 M1 L1 B1 I1 N5 B5
            rw [hLL] at CT OT
            have hne0 := herr
            clear hR hLL
            go_wp2
            go_roundw
            case rel => exact ⟨j + 1, V', L, k', S', pn, pt, m2, by omega, by go_num, OT.out, CT.out, MT.out, HP.out, by omega, NT.out, LT.out⟩
            case measure => simp [intOf]; omega
      · go_wp2_with fail
        refine (pin_all OH.out LH.out.size C.out.fine (fun p hp => Nat.le_trans (C.out.pins p hp) (by have := HJ.out; omega)) at_ HI.out).mono ?_
        rintro e wT ⟨err, L', S', rfl, hR, hO, hst⟩
        have CT : Hid (Coh 8 (j + 1) rm V (j + 1) L' k) := (coh_pin C.out hR).up (Nat.le_succ _) (Nat.le_refl _)
        have OT := Lib.hid hO
        have MT := Lib.hid (MH.out.keep (hst.1.block gm MH.out.lt NL.out))
        have NT : Hid (¬ S' gm) := hst.not MH.out.lt NL.out
        have LT := Lib.hid (LH.out.trans (hst.below OH.out.2 LH.out.size))
        have b3 : wT.cell? ⟨gb, 1, none⟩ = some (.int .i64 at_) := (hst.bk BH.out NA0.out).cell 1
        by_cases herr : err = 0
        · subst herr
          obtain ⟨hpp, hpl, hp0⟩ := HP.out.pin C.out hR
          have hlk := (MT.out.look intE Try.underlying54 HI.out).1
          have HPP := Lib.hid hpp
          have hw1 : wrap64 (pn at_ + 1) = pn at_ + 1 := by unfold wrap64; omega
          have hok : Hid (I64 (pn at_ + 1)) := by unfold Hid I64; omega
          clear hR hO hst hpp OH MH LH
          go_wp2_with (at_mapUpdate; refine wpList_mput (β := Int) (enc := Value.int .i64) rfl (.tmp 63) (.tmp 65) (.tmp 67) rfl intE Try.underlying54 rfl MT.out HmI.out HI.out rfl (x := pn at_ + 1) hok.out (by first | rfl | simp [hw1]) ?_; intro wy hMy hGy; have HMy := Lib.hid hMy; have HGy := Lib.hid hGy; clear hMy hGy)
          go_roundw
          case rel => 
            refine ⟨j + 1, V, L', k, S', _, _, _, by omega, by go_num, ⟨OT.out.1.keep fun i hi => HGy.out.block i (OT.out.1.lt hi) fun e => by injection e with e; subst e; exact NT.out hi, OT.out.2⟩, CT.out, HMy.out, HPP.out, ?_, NT.out, LT.out.grown HGy.out LT.out.size fun t ht => by cases ht; exact G4.out⟩
            split <;> omega
          case measure => simp [intOf]; omega
        · have hLL := pin_still hR herr
          subst hLL
          clear hR hO hst OH MH LH
          go_wp2
          go_roundw
          case rel => exact ⟨j + 1, V, L', k, S', pn, pt, m2, by omega, by go_num, OT.out, CT.out, MT.out, HP.out, by omega, NT.out, LT.out⟩
          case measure => simp [intOf]; omega
      · go_wp2_with fail
        refine (unpin_all OH.out LH.out.size C.out.fine (fun p hp => Nat.le_trans (C.out.pins p hp) (by have := HJ.out; omega)) at_ HI.out).mono ?_
        rintro e wT ⟨err, L', S', rfl, hR, hO, hst⟩
        have CT : Hid (Coh 8 (j + 1) rm V (j + 1) L' k) := (coh_unpin C.out hR).up (Nat.le_succ _) (Nat.le_refl _)
        have OT := Lib.hid hO
        have MT := Lib.hid (MH.out.keep (hst.1.block gm MH.out.lt NL.out))
        have NT : Hid (¬ S' gm) := hst.not MH.out.lt NL.out
        have LT := Lib.hid (LH.out.trans (hst.below OH.out.2 LH.out.size))
        have b3 : wT.cell? ⟨gb, 1, none⟩ = some (.int .i64 at_) := (hst.bk BH.out NA0.out).cell 1
        by_cases herr : err = 0
        · subst herr
          obtain ⟨hpp, hpl, hp0⟩ := HP.out.unpin C.out hR
          have hlk := (MT.out.look intE Try.underlying54 HI.out).1
          have HPP := Lib.hid hpp
          have hw1 : wrap64 (pn at_ - 1) = pn at_ - 1 := by unfold wrap64; omega
          have hok : Hid (I64 (pn at_ - 1)) := by unfold Hid I64; omega
          clear hR hO hst hpp OH MH LH
          go_wp2_with (at_mapUpdate; refine wpList_mput (β := Int) (enc := Value.int .i64) rfl (.tmp 75) (.tmp 77) (.tmp 79) rfl intE Try.underlying54 rfl MT.out HmI.out HI.out rfl (x := pn at_ - 1) hok.out (by first | rfl | simp [hw1]) ?_; intro wy hMy hGy; have HMy := Lib.hid hMy; have HGy := Lib.hid hGy; clear hMy hGy)
          go_roundw
          case rel => 
            refine ⟨j + 1, V, L', k, S', _, _, _, by omega, by go_num, ⟨OT.out.1.keep fun i hi => HGy.out.block i (OT.out.1.lt hi) fun e => by injection e with e; subst e; exact NT.out hi, OT.out.2⟩, CT.out, HMy.out, HPP.out, ?_, NT.out, LT.out.grown HGy.out LT.out.size fun t ht => by cases ht; exact G4.out⟩
            split <;> omega
          case measure => simp [intOf]; omega
        · have hLL := unpin_still hR herr
          subst hLL
          clear hR hO hst OH MH LH
          go_wp2
          go_roundw
          case rel => exact ⟨j + 1, V, L', k, S', pn, pt, m2, by omega, by go_num, OT.out, CT.out, MT.out, HP.out, by omega, NT.out, LT.out⟩
          case measure => simp [intOf]; omega
      · have OT := OH
        have MT := MH
        have LT := LH
        go_wp2
        go_roundw
        case rel => exact ⟨j + 1, V, L, k, S, pn, pt, m2, by omega, by go_num, OT.out, C.out.up (Nat.le_succ _) (Nat.le_succ _), MT.out, HP.out, by omega, NL.out, LT.out⟩
        case measure => simp [intOf]; omega
      · have OT := OH
        have MT := MH
        have LT := LH
        go_wp2
        go_roundw
        case rel => exact ⟨j + 1, V, L, k, S, pn, pt, m2, by omega, by go_num, OT.out, C.out.up (Nat.le_succ _) (Nat.le_succ _), MT.out, HP.out, by omega, NL.out, LT.out⟩
        case measure => simp [intOf]; omega
      · have OT := OH
        have MT := MH
        have LT := LH
        go_wp2
        go_roundw
        case rel => exact ⟨j + 1, V, L, k, S, pn, pt, m2, by omega, by go_num, OT.out, C.out.up (Nat.le_succ _) (Nat.le_succ _), MT.out, HP.out, by omega, NL.out, LT.out⟩
        case measure => simp [intOf]; omega
      · have OT := OH
        have MT := MH
        have LT := LH
        go_wp2
        go_roundw
        case rel => exact ⟨j + 1, V, L, k, S, pn, pt, m2, by omega, by go_num, OT.out, C.out.up (Nat.le_succ _) (Nat.le_succ _), MT.out, HP.out, by omega, NL.out, LT.out⟩
        case measure => simp [intOf]; omega
    · obtain rfl : j = q := by omega
      go_wp2
      go_ret
      exact ⟨rfl, LL.out⟩

theorem first_int (x : Int) (hx : 0 ≤ x) (hx2 : x < 256) (l : List Act) (A : Option Addr) (n c : Nat) (w : World) (hn : l.length = n) (hc : n ≤ c) (hm : c ≤ 9223372036854775807) (ha : Acts w w.heap.size A l) :
    Calls Try.prog 7 #[.int .u8 x, .slice A n c] w fun e w' => e = .returned (.bool true) ∧ Below w.heap.size w w' := by
  obtain ⟨r, rfl⟩ : ∃ r : Nat, x = (r : Int) := ⟨x.toNat, by omega⟩
  exact first_walk r (by omega) l A n c w hn hc hm ha

theorem first_contract (H : Type) (enc : TypeId × Value → H) (W : World) (base : Nat) (args : Array Value) (ds gs : List (DataW H)) (before : List MemPlace)
    (hval : ∀ (j : Nat) t v, Try.f7.params[j]? = some t → args[j]? = some v → Value.okWide Try.prog W .any base t v)
    (hW : DataW.Whole enc Try.prog Try.f7.params.toList Rows.cacheFirstSpec.vars false W args.toList ds gs before) :
    Calls Try.prog 7 args W fun e W' => ∃ v, e = .returned v ∧ Rows.cacheFirstSpec.post enc Try.prog Try.f7 false true false false W args v W' := by
  have hW' := hW
  have hlt : ∀ x ∈ before, x.block < W.heap.size := fun x hx => hW.lt x hx
  obtain ⟨p, q, hA0, hV, rfl, _, _⟩ := hW
  have hA : DataW.TrodAll enc Try.prog W 0 (fun _ => true) true Try.f7.params.toList args.toList ds p := hA0
  rw [Try.params7] at hA hval
  obtain ⟨v0, vs0, d0, ds0, p0, q0, hargs, rfl, rfl, h0, r0⟩ := trodAll_cons hA
  obtain ⟨v1, vs1, d1, ds1, p1, q1, rfl, rfl, rfl, h1, r1⟩ := trodAll_cons r0
  obtain ⟨rfl, rfl, rfl⟩ := trodAll_nil r1
  obtain rfl : args = #[v0, v1] := by cases args; simp_all
  obtain ⟨rfl, rfl⟩ := trodVars_none hV
  clear hA0
  obtain ⟨a0, rfl, rfl, rfl, wa0⟩ := open_int Try.underlying5 (hval 0 5 v0 rfl rfl) h0
  have bd0 := bounds_u8 wa0
  obtain ⟨A1, n1, c1, l1, rfl, hn1, hc1, hm1, hr1⟩ := open_actsL (hval 1 22 v1 rfl rfl) h1 (fun x hx => hlt x (by simp [hx]))
  unfold maxLen at hm1
  refine (first_int a0 (by omega) (by omega) l1 A1 n1 c1 W hn1 hc1 (by omega) hr1).mono fun e W' ⟨he, hb⟩ => ?_
  subst he
  exact ⟨_, rfl, law_post laid (by kernel_rfl) Try.underlying4 (by rw [Try.params7]; decide +kernel) rfl hW' ⟨rfl, rfl, rfl⟩ hb⟩

set_option maxRecDepth 100000 in
theorem first_lifted (os : Os) (started : os.Started) (H : Type) (enc : TypeId × Value → H) :
    ReturnsInHanded {} Try.checked os 7 .any (Rows.cacheFirstSpec.pre6 enc Try.prog Try.f7 Rows.cacheFirstRow.domain false) (Rows.cacheFirstSpec.post enc Try.prog Try.f7 false true false false) := by
  refine returnsInHanded_of_change (C := Try.checked) own started (by kernel_rfl) Try.func7
    (ChangeSpec.witness6 (enc := enc) (C := Try.checked) false ⟨#[], #[.int .u8 0, .slice none 0 0], []⟩ 8 (by kernel_rfl) (by kernel_rfl) (by kernel_rfl) (by kernel_rfl)) ?_
  intro W base args ds gs before hval hW _ _
  exact first_contract H enc W base args ds gs before hval hW

/-- CacheFirst is true for every input. -/
theorem first_holds : Rows.CacheFirstSaid :=
  OpenClaim.holds_of_wide 7 Try.f7 rfl rfl rfl rfl rfl rfl rfl ⟨rfl, rfl, rfl, rfl, rfl⟩ rfl rfl rfl rfl rfl (by kernel_rfl) Try.func7 (by kernel_rfl)
    (of_decide_eq_true (by kernel_rfl)) (by unfold Func.isWrapper; first | (rw [if_pos (by decide +kernel)]; kernel_rfl) | (rw [if_neg (by decide +kernel)]; exact ⟨rfl, rfl⟩))
    (fun os started H enc _ => first_lifted os started H enc)
end Go.Proofs.Ytnmfpgeojggjbaa
