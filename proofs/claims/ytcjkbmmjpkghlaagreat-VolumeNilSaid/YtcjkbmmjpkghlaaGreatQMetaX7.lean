/-
  Package meta: the inodes' sectors, laid.
-/
import Derived.Test.YtcjkbmmjpkghlaaGreatQMetaB
namespace Go.Proofs.YtcjkbmmjpkghlaaGreat.Meta
open Go.Proofs.YtcjkbmmjpkghlaaGreat
open Go.RowKit Go.Shelf

attribute [local go_sem] Oper.semAt_some

set_option maxRecDepth 100000 in
set_option maxHeartbeats 4000000 in
theorem layino_any (l : List Inode.Ino) (ho : ∀ m ∈ l, Inode.Oki m) (hR : ∀ m ∈ l, Inode.Right m) (b0 o0 m c : Nat) (w : World) (hm : l.length = m) (hev : m % 2 = 0) (h0 : 0 < m) (hmm : m ≤ 64) (hmc : m ≤ c) (hr : Rd w w.heap.size (some ⟨b0, o0, none⟩) (inosV l)) :
    Calls Tryz.prog 107 #[.slice (some ⟨b0, o0, none⟩) m c] w fun e w' => ∃ v L, e = .returned v ∧ SecsOwn w' w.heap.size v L (pairs l) ∧ Below w.heap.size w w' := by
  have HO := Lib.hid ho
  have HR := Lib.hid hR
  have HRD := Lib.hid hr
  have Hm := Lib.hid hm
  have HEV := Lib.hid hev
  clear ho hR hr hm hev
  refine (callsIn_wide (n := 5)).1 ?_
  refine callsIn_of_wp_marks Tryz.func107 rfl trivial ?_ rfl
  simp only [Tryz.ntmps107, List.size_toArray, List.length_cons, List.length_nil, Nat.reduceAdd, Nat.reduceSub, Array.replicate_succ, Array.replicate_zero, List.push_toArray, List.append_toArray, List.nil_append, List.cons_append]
  gi_wp2_with (refine ⟨trivial, ?_⟩; gi_at_call 164; refine (chunk_inI _ _ _ _ _).mono ?_; rintro e w' ⟨rfl, rfl⟩)
  have bS := Boxed.new w 100 (.slice none 0 0)
  have e1 : (w.alloc (.cells #[.slice none 0 0] 100)).heap.size = w.heap.size + 1 := by simp
  obtain ⟨w1, hw1⟩ : ∃ w1, w1 = w.alloc (.cells #[.slice none 0 0] 100) := ⟨_, rfl⟩
  have b1 : Below w.heap.size w w1 := by rw [hw1]; exact (Below.refl _ w).alloc (Nat.le_refl _) _
  rw [← hw1] at bS e1 ⊢
  have bL := Boxed.new w1 58 (.slice (some ⟨b0, o0, none⟩) m c)
  have bN := Boxed.new (w1.alloc (.cells #[.slice (some ⟨b0, o0, none⟩) m c] 58)) 3 (.int .i64 2)
  have e2 : (w1.alloc (.cells #[.slice (some ⟨b0, o0, none⟩) m c] 58)).heap.size = w1.heap.size + 1 := by simp
  obtain ⟨w2, hw2⟩ : ∃ w2, w2 = w1.alloc (.cells #[.slice (some ⟨b0, o0, none⟩) m c] 58) := ⟨_, rfl⟩
  rw [← hw2] at bL e2 bN ⊢
  have e3 : (w2.alloc (.cells #[.int .i64 2] 3)).heap.size = w2.heap.size + 1 := by simp
  obtain ⟨w3, hw3⟩ : ∃ w3, w3 = w2.alloc (.cells #[.int .i64 2] 3) := ⟨_, rfl⟩
  have b2 : Below w.heap.size w1 w2 := by rw [hw2]; exact (Below.refl _ w1).alloc (by omega) _
  have b3 : Below w.heap.size w2 w3 := by rw [hw3]; exact (Below.refl _ w2).alloc (by omega) _
  have bS3 : Boxed w3 w.heap.size 100 (.slice none 0 0) := by rw [hw3, hw2]; exact (bS.alloc _).alloc _
  have bL3 : Boxed w3 (w.heap.size + 1) 58 (.slice (some ⟨b0, o0, none⟩) m c) := by rw [hw3, ← e1]; exact bL.alloc _
  have bN3 : Boxed w3 (w.heap.size + 1 + 1) 3 (.int .i64 2) := by rw [hw3, show w.heap.size + 1 + 1 = w2.heap.size by omega]; exact bN
  rw [← hw3] at e3 ⊢
  have hsz : w3.heap.size = w.heap.size + 3 := by omega
  have B3 : Below w.heap.size w w3 := (b1.trans b2).trans b3
  clear bS bL bN b1 b2 b3
  clear hw1 hw2 hw3 e1 e2 e3
  refine wpIn_rangeFunc_ownF rfl (by omega) (gf := 199) (lb := #[.pointer (some ⟨w.heap.size + 1, 0, none⟩), .pointer (some ⟨w.heap.size + 1 + 1, 0, none⟩)]) rfl trivial (enters_of Tryz.func199 (by kernel_rfl) rfl)
    (chunk_stopsI 4 (by omega) (w.heap.size + 1) (w.heap.size + 1 + 1) b0 o0 m c (by omega) hmc w3 (by omega) (by omega) bL3.cell bN3.cell) Two.trans (fun W k o o' hk _ _ _ => ⟨World.putObj_heap_other (by omega), World.putObj_heap_other (by omega)⟩) (Below.refl _ _) (fun _ => rfl)
    (fun pre W => HoldS w.heap.size w.heap.size (pre.map fun x => secP l x.1) W ∧ Below w.heap.size w W ∧ Two (w.heap.size + 1) (w.heap.size + 1 + 1) w3 W)
    (fun _ _ _ => False)
    (OwnFrom.and (Own.from (holdS_own _ _ _) _) (OwnFrom.and (ownFrom_below (Nat.le_refl _) (by omega)) (fun _ W W' row hs hg hr => hs.trans ⟨hg.block _ (twoLt hs.1 bL3) (fun e => by have := (hr _ e.symm).1; omega), hg.block _ (twoLt hs.2 bN3) (fun e => by have := (hr _ e.symm).1; omega)⟩)))
    (fun _ _ _ _ _ hs _ _ => hs)
    ⟨⟨_, [], bS3, SecsOwn.nil _ _⟩, B3, Two.refl _ _ _⟩
    (fun x => { tmps := #[.slice (some ⟨b0, o0, none⟩) m c, undef, .slice none 0 0, .pointer (some ⟨w.heap.size, 0, none⟩), chunkVI b0 o0 m x.1, undef, undef, undef, undef, undef, .slice (some ⟨b0, o0, none⟩) m c, .func (.func 199) #[] #[.pointer (some ⟨w.heap.size + 1, 0, none⟩), .pointer (some ⟨w.heap.size + 1 + 1, 0, none⟩)], chunkVI b0 o0 m x.1, undef, undef, undef, undef, undef, undef, undef, undef, undef, undef, undef, undef, undef, undef, undef, undef, undef, undef, undef, undef], defers := [] }) ?assign ?body ?done ?stop
  case assign =>
    intro l' x W K hK
    gi_wp2
    exact hK
  case body =>
    rintro l' pre x W ⟨⟨v, L, hH, hS⟩, hB, hTw⟩ hlen
    obtain ⟨x, hx⟩ := x
    have hm2 := Hm.out
    have hev := HEV.out
    obtain ⟨p, q, hp, hq⟩ := two_get (l := l) (x := x) (by omega) (by omega)
    have hsec := secP_at hp hq
    have hch : chunkVI b0 o0 m x = .slice (some ⟨b0, o0 + 2 * x * 14, none⟩) 2 2 := by
      unfold chunkVI
      rw [show min 2 (m - 2 * x) = 2 by omega]
    have HN : Hid (∀ (a : Nat), a < 2 → ∃ n, [p, q][a]? = some n ∧ l[2 * x + a]? = some n) := Lib.hid (fun a ha => by
      match a, ha with
      | 0, _ => exact ⟨p, rfl, hp⟩
      | 1, _ => exact ⟨q, rfl, hq⟩)
    have HH := Lib.hid hH
    have HS := Lib.hid hS
    have HB := Lib.hid hB
    have HT := Lib.hid hTw
    have HSE := Lib.hid hsec
    have HPL : Hid ((pre.map fun x => secP l x.1).length ≤ 100) := Lib.hid (by rw [List.length_map]; omega)
    clear hm2 hev hp hq hsec hH hS hB hTw
    dsimp only
    rw [hch]
    clear hch
    have hd1 : 1 ≤ 5 - 1 - 1 := by omega
    gi_wp2
    gi_loopw [5, 15] (fun u k wr => ∃ a : Nat, k = .int .i64 (a : Int) ∧ a ≤ 2 ∧ Hid (wr.ownsRow W.heap.size 5 1 u (32 * a) (bytesV (([p, q].take a).flatMap Inode.bytesI))) ∧ Hid (Below W.heap.size W wr)) (fun _ k _ => 2 - (intOf k).toNat)
    case atStart => exact ⟨0, rfl, Nat.zero_le _, Lib.hid (World.ownsRow_nil _ _ _ _), Lib.hid (Below.refl _ _)⟩
    case round =>
      obtain ⟨a, rfl, ha, HU, HBw⟩ := hrel
      by_cases hlt : a < 2
      · obtain ⟨n, hn1, hn2⟩ := HN.out a hlt
        have hmem := List.mem_of_getElem? hn2
        have hox := HO.out n hmem
        have hrx := HR.out n hmem
        have hax := Lib.hid (rd_ino (HRD.out.below (HB.out.trans (HBw.out.mono HB.out.size))) HO.out hn2)
        have HLX : Hid (∀ u : World, Calls Tryz.prog 165 #[.agg (Inode.cellsI n).toArray] u fun e w' => Inode.HandsB u (Inode.bytesI n) 0 e w') := Lib.hid (fun u => by
          have := Inode.lay_ino n hox u
          rwa [Inode.layI_yes hrx] at this)
        have HSX := Lib.hid (size_ino' n hox)
        have HCX := Lib.hid (Inode.length_cellsI hox)
        have HC1 := Lib.hid (cellsI_one n)
        have HNX : Hid ((Inode.bytesI n).length = 32) := Lib.hid (Inode.length_bytesI hox)
        have hst : ([p, q].take (a + 1)).flatMap Inode.bytesI = ([p, q].take a).flatMap Inode.bytesI ++ Inode.bytesI n := by
          rw [List.take_add_one, hn1, List.flatMap_append]
          simp
        have HST := Lib.hid hst
        have hlti : (a : Int) < 2 := by omega
        have ha0 : (0 : Int) ≤ (a : Int) := by omega
        have hadd : o0 + (2 * x + a) * 14 = o0 + 2 * x * 14 + a * 14 := by rw [Nat.add_mul, Nat.add_assoc]
        rw [hadd] at hax
        clear hn1 hn2 hmem hox hrx hst hadd
        generalize Inode.cellsI n = cx at *
        obtain ⟨tk, htk⟩ : ∃ tk, ([p, q].take a).flatMap Inode.bytesI = tk := ⟨_, rfl⟩
        rw [htk] at HU HST
        clear htk
        gi_wp2_with (first
          | (refine wpListIn_load_mid rfl 40 (.tmp 17) rfl b0 (o0 + 2 * x * 14 + a * 14) rfl cx _ hax.out Tryz.underlying40 rfl HSX.out ?_)
          | (refine wpListIn_store_mid rfl 40 (.tmp 7) (.tmp 18) rfl wr.heap.size 0 cx.toArray rfl rfl (there_new _ _ _ _ (by simp [HCX.out])) HSX.out (all_oneCell_toArray HC1.out) ?_; have HB7 := Lib.hid (below_setCells (Nat.le_refl _) cx.toArray.toList 0 (al_below wr (.cells #[.int .u8 0, .int .u8 0, .int .i64 0, .int .i64 0, .int .i64 0, .int .i64 0, .int .i64 0, .int .i64 0, .int .i64 0, .int .i64 0, .int .i64 0, .int .i64 0, .int .i64 0, .int .i64 0] 40))); have HRX := Lib.hid (World.rangeAt_setCells_same (wr.alloc (.cells #[.int .u8 0, .int .u8 0, .int .i64 0, .int .i64 0, .int .i64 0, .int .i64 0, .int .i64 0, .int .i64 0, .int .i64 0, .int .i64 0, .int .i64 0, .int .i64 0, .int .i64 0, .int .i64 0] 40)) wr.heap.size 0 cx.toArray.toList (there_new _ _ _ _ (by simp [HCX.out]))); generalize ((wr.alloc (.cells #[.int .u8 0, .int .u8 0, .int .i64 0, .int .i64 0, .int .i64 0, .int .i64 0, .int .i64 0, .int .i64 0, .int .i64 0, .int .i64 0, .int .i64 0, .int .i64 0, .int .i64 0, .int .i64 0] 40)).setCells wr.heap.size 0 cx.toArray.toList) = w7 at *)
          | (refine wpListIn_load_mid rfl 40 (.tmp 7) rfl wr.heap.size 0 rfl cx _ HRX.out Tryz.underlying40 rfl HSX.out ?_)
          | (refine ⟨trivial, ?_⟩; gi_at_call 165; refine (CallsIn.inRound l' (callsIn_wide.2 (HLX.out _))).mono ?_; rintro e w8 ⟨v8, he, ho8, hb⟩; obtain rfl := he; rw [HNX.out] at ho8; obtain ⟨A8, c8, hv8⟩ := own_slice ho8; subst hv8; have HR8 := Lib.hid (own_rdp ho8); have HB8 := Lib.hid (HB7.out.trans (hb.mono HB7.out.size)); have HU8 := Lib.hid (own_below (HU.out) HB8.out); obtain ⟨v9, w9, hrun, hown, hgr⟩ := run_app8 w8 37 W.heap.size _ (32 * a) tk HU8.out w8.heap.size A8 32 c8 (Inode.bytesI n) HNX.out HR8.out (by omega) (by have := HB8.out.size; have := HBw.out.size; omega); have HRUN := Lib.hid hrun; have HOWN := Lib.hid hown; have HGR := Lib.hid hgr; clear hb ho8 hrun hown hgr)
          | (gi_at_builtin; refine wpListIn_append_run rfl (.tmp 24) (.tmp 25) 37 rfl rfl rfl HRUN.out ?_))
        have HU9 : Hid (w9.ownsRow W.heap.size 5 1 v9 (32 * (a + 1)) (bytesV (([p, q].take (a + 1)).flatMap Inode.bytesI))) := Lib.hid (by rw [HST.out]; exact HOWN.out)
        have HB9 : Hid (Below W.heap.size W w9) := Lib.hid ((HBw.out.trans (HB8.out.mono HBw.out.size)).grown HGR.out (by have := HB8.out.size; have := HBw.out.size; omega) (fun k hk => (HU8.out.lt k hk).1))
        clear HU8 HOWN HGR HRUN
        gi_wp2
        go_roundw
        case rel => exact ⟨a + 1, by go_num, hlt, HU9, HB9⟩
        case measure => simp [intOf]; omega
      · obtain rfl : a = 2 := by omega
        have hfl : ([p, q].take 2).flatMap Inode.bytesI = secP l x := by rw [HSE.out]; simp
        rw [hfl] at HU
        have HLS : Hid ((secP l x).length = 64) := Lib.hid (by
          have h1 := HU.out.1
          rw [length_bytesV] at h1
          omega)
        obtain ⟨A8, c8, hv8⟩ := own_slice HU.out
        subst hv8
        have hd1' : Below w.heap.size w wr := HB.out.trans (HBw.out.mono HB.out.size)
        have HBW2 := Lib.hid hd1'
        have hbxr : Boxed wr w.heap.size 100 v := (HBw.out.block _ HH.out.lt).trans HH.out
        have HHr := Lib.hid hbxr
        have HSr := Lib.hid (HS.out.below HBw.out)
        have hcb := HHr.out.cell
        have hTr : Two (w.heap.size + 1) (w.heap.size + 1 + 1) W wr := ⟨HBw.out.block _ (twoLt HT.out.1 bL3), HBw.out.block _ (twoLt HT.out.2 bN3)⟩
        have HTR := Lib.hid hTr
        obtain ⟨ls, hls⟩ : ∃ ls, (pre.map fun x => secP l x.1) = ls := ⟨_, rfl⟩
        rw [hls] at HSr HPL
        have HLS2 := Lib.hid hls
        obtain ⟨v9, w9, hrun, hown, hgr⟩ := run_sec (wr.alloc (.cells #[.slice A8 64 c8] 37)) 100 w.heap.size v L ls (HSr.out.below (al_below _ _)) wr.heap.size ⟨A8, c8⟩ 64 (by rw [World.cell?_alloc_at _ _ _ _ rfl]; rfl) (by have := HPL.out; omega) (by have := HBW2.out.size; simp; omega)
        obtain ⟨A9, c9, hv9⟩ := own_slice hown
        subst hv9
        have HRUN := Lib.hid hrun
        obtain ⟨a1, a2, a3, a4, a5⟩ := Boxed.appended HHr.out (by decide) HSr.out.row HBW2.out.size (Nat.le_refl _) hown hgr
        have HX1 := Lib.hid (box_other (v' := .slice A9 (ls.length + 1) c9) (k := w.heap.size + 1) (B := w.heap.size) ((HTR.out.1).trans (HT.out.1.trans bL3) : Boxed wr (w.heap.size + 1) 58 _) (by decide) (by omega) HSr.out.row hgr)
        have HX2 := Lib.hid (box_other (v' := .slice A9 (ls.length + 1) c9) (k := w.heap.size + 1 + 1) (B := w.heap.size) ((HTR.out.2).trans (HT.out.2.trans bN3) : Boxed wr (w.heap.size + 1 + 1) 3 _) (by decide) (by omega) HSr.out.row hgr)
        have hc9 := a1.cell
        have hf9 := a1.frozen
        have hl9 := a1.lt
        have HA2 := Lib.hid a2
        have HA4 := Lib.hid a4
        have HA5 := Lib.hid a5
        have hkeep : ∀ {vv : Value} {nn : Nat} {ll : List Value} {bb : Nat}, wr.ownsRow bb 5 1 vv nn ll → (w9.setCell ⟨w.heap.size, 0, none⟩ (.slice A9 (ls.length + 1) c9)).ownsRow bb 5 1 vv nn ll := fun {vv nn ll bb} h => by
          have h1 := (h.alloc (.cells #[.slice A8 64 c8] 37)).kept hgr (own_ne h HSr.out.row (by decide))
          refine h1.kept (grownBy_setCell' w9 w.heap.size _) (.inr ?_)
          exact Ne.symm (a1.not_row (by decide) h1)
        have HSN := Lib.hid (HSr.out.snoc (S := ⟨A8, c8⟩) (b := secP l x) (by rw [HLS.out]; exact a3) (by rw [HLS.out]; exact own_mono (hkeep HU.out) HB.out.size) (fun i s b h1 h2 => hkeep (HSr.out.each i s b h1 h2)))
        clear hrun hown hgr a1 a2 a3 a4 a5 hkeep hls hbxr hTr hd1'
        gi_wp2_with (gi_at_builtin; refine wpListIn_append_run rfl (.tmp 28) (.tmp 30) 100 rfl rfl rfl HRUN.out ?_)
        have hW9 : Two (w.heap.size + 1) (w.heap.size + 1 + 1) W (w9.setCell ⟨w.heap.size, 0, none⟩ (.slice A9 (ls.length + 1) c9)) := HTR.out.trans ⟨HX1.out, HX2.out⟩
        have hkb : KeepsOthers W wr := ⟨HBw.out.size, fun k o hk _ => (HBw.out.block k (Array.getElem?_eq_some_iff.1 hk).1).trans hk⟩
        exact ⟨hkb.trans HA4.out, hW9, ⟨_, _, HA2.out, by rw [List.map_append, HLS2.out]; exact HSN.out⟩, HBW2.out.trans HA5.out, HT.out.trans hW9⟩
  case done =>
    rintro D ys W hD hys ⟨⟨v, L, hH, hS⟩, hB, _⟩ hK
    have hmap : (ys.map fun x => secP l x.1) = pairs l := by
      have h1 : (ys.map fun x => secP l x.1) = (ys.map (·.1)).map (secP l) := by rw [List.map_map]; rfl
      rw [h1, hys, ← Hm.out]
      exact pairs_range (by rw [Hm.out]; exact HEV.out)
    rw [hmap] at hS
    have hc := hH.cell
    obtain ⟨A, cv, hv⟩ := hS.slice
    subst hv
    have HS := Lib.hid hS
    have HB := Lib.hid hB
    have HK := Lib.hid hK
    clear hS hB hK hmap hys
    gi_wp2
    refine ⟨by simp, .inl ⟨_, _, rfl, run_takeDeferred HK.out, ?_⟩⟩
    have hnc : ∀ r, some D = some r → ∃ o : Obj, W.heap[r]? = some o ∧ o.isCells = false := fun r e => by cases e; exact ⟨_, HK.out, rfl⟩
    refine ⟨_, results_tmp rfl _ _ _, _, L, rfl, ⟨HS.out.len, own_nc HS.out.row (grownBy_putObj' W D _) hnc, fun i s b h1 h2 => own_nc (HS.out.each i s b h1 h2) (grownBy_putObj' W D _) hnc⟩, HB.out.trans ((Below.refl w.heap.size W).grown (grownBy_putObj' W D _) HB.out.size (fun k e => by cases e; omega))⟩
  case stop =>
    rintro D c pre W _ _ h _
    exact h.elim
end Go.Proofs.YtcjkbmmjpkghlaaGreat.Meta
