/-
  Package meta: inodes taken of sectors.
-/
import Derived.Test.YtcjkbmmjpkghlaaGreatQMetaX9
namespace Go.Proofs.YtcjkbmmjpkghlaaGreat.Meta
open Go.Proofs.YtcjkbmmjpkghlaaGreat
open Go.RowKit Go.Shelf

attribute [local go_sem] Oper.semAt_some

set_option maxRecDepth 100000 in
set_option maxHeartbeats 4000000 in
theorem takeino_in (l : List (List UInt8)) (h64 : ∀ s ∈ l, s.length = 64) (b o n c : Nat) (L : List Sc) (w : World) (hl : l.length = n) (hs : SecsAt w w.heap.size (some ⟨b, o, none⟩) L l) (hm : n ≤ 40) :
    Calls Tryz.prog 124 #[.slice (some ⟨b, o, none⟩) n c] w fun e w' => ∃ v, e = .returned v ∧ w'.ownsRow w.heap.size 40 14 v (2 * n) (inosV (inoS l n)) ∧ Below w.heap.size w w' := by
  have HS := Lib.hid hs
  have HL := Lib.hid hl
  have H64 := Lib.hid h64
  clear hs hl h64
  refine (callsIn_wide (n := 5)).1 ?_
  refine callsIn_of_wp_marks Tryz.func124 rfl trivial ?_ rfl
  simp only [Tryz.ntmps124, List.size_toArray, List.length_cons, List.length_nil, Nat.reduceAdd, Nat.reduceSub, Array.replicate_succ, Array.replicate_zero, List.push_toArray, List.append_toArray, List.nil_append, List.cons_append]
  gi_wp2
  have h0H : HoldI w.heap.size w.heap.size (inoS l 0) (w.alloc (.cells #[.slice none 0 0] 58)) := ⟨_, Boxed.new w 58 (.slice none 0 0), by rw [inoS_zero]; exact World.ownsRow_nil _ _ _ _⟩
  have h0B := al_below w (.cells #[.slice none 0 0] 58)
  refine wpIn_loop (fun a W => ∃ (k : Nat) (ds : List Nat) (x5 x12 x13 x14 x15 x16 x27 : Value), a = { tmps := #[.slice (some ⟨b, o, none⟩) n c, undef, .slice none 0 0, .pointer (some ⟨w.heap.size, 0, none⟩), undef, x5, undef, undef, undef, .slice (some ⟨b, o, none⟩) n c, .int .i64 (n : Int), .int .i64 (k : Int), x12, x13, x14, x15, x16, undef, undef, undef, undef, undef, undef, undef, undef, undef, undef, x27, undef], defers := ds.map mark } ∧ k ≤ n ∧ HoldI w.heap.size w.heap.size (inoS l k) W ∧ Below w.heap.size w W ∧ Marks w.heap.size ds W) (fun a _ => n - (intOf (a.tmps[11]?.getD undef)).toNat)
    ⟨0, [], undef, undef, undef, undef, undef, undef, undef, rfl, Nat.zero_le _, h0H, h0B, List.nodup_nil, fun D hD => by simp at hD⟩ ?_
  rintro a W ⟨k, ds, x5, x12, x13, x14, x15, x16, x27, rfl, hk, hH, hB, hMk⟩
  clear h0H h0B
  have HB := Lib.hid hB
  have HMK := Lib.hid hMk
  have HH := Lib.hid hH
  clear hB hMk hH
  by_cases hlt : k < n
  · obtain ⟨s, hsl⟩ : ∃ s, l[k]? = some s := ⟨_, List.getElem?_eq_getElem (by rw [HL.out]; exact hlt)⟩
    have hs64 := H64.out s (List.mem_of_getElem? hsl)
    obtain ⟨S, hLk, hcell, hrd, hcap, hcm⟩ := (HS.out.below HB.out).get hsl
    obtain ⟨b3, o3, hA3, hb3⟩ := rd_first hrd (by rw [length_bytesV]; omega)
    obtain ⟨A3, c3⟩ := S
    have hA3 : A3 = some ⟨b3, o3, none⟩ := hA3
    subst hA3
    rw [hs64] at hcell
    have hc3 : 64 ≤ c3 := by have := hcap; simp only [hs64] at this; exact this
    have HRW := Lib.hid (HS.out.each k _ s hLk hsl).1
    have HSL := Lib.hid hsl
    have HS64 := Lib.hid hs64
    have hlti : (k : Int) < (n : Int) := by omega
    have hk0 : (0 : Int) ≤ (k : Int) := by omega
    clear hsl hs64 hrd hcap hcm hb3 hLk
    gi_wp2_with (refine ⟨trivial, ?_⟩; gi_at_call 180; refine (chunk_inB _ _ _ _ _).mono ?_; rintro e w' ⟨rfl, rfl⟩)
    have bL := Boxed.new W 37 (.slice (some ⟨b3, o3, none⟩) 64 c3)
    have bN := Boxed.new (W.alloc (.cells #[.slice (some ⟨b3, o3, none⟩) 64 c3] 37)) 3 (.int .i64 32)
    obtain ⟨W2, hW2⟩ : ∃ W2, W2 = (W.alloc (.cells #[.slice (some ⟨b3, o3, none⟩) 64 c3] 37)).alloc (.cells #[.int .i64 32] 3) := ⟨_, rfl⟩
    have hb2 : Below W.heap.size W W2 := by rw [hW2]; exact (al_below W _).alloc (by simp) _
    have bL2 : Boxed W2 W.heap.size 37 (.slice (some ⟨b3, o3, none⟩) 64 c3) := by rw [hW2]; exact bL.alloc _
    have bN2 : Boxed W2 (W.heap.size + 1) 3 (.int .i64 32) := by rw [hW2]; simpa using bN
    have hsz2 : W2.heap.size = W.heap.size + 2 := by rw [hW2]; simp
    rw [← hW2]
    have HH2 : HoldI w.heap.size w.heap.size (inoS l k) W2 := by
      obtain ⟨v, h1, h2⟩ := HH.out
      exact ⟨v, (hb2.block _ h1.lt).trans h1, own_below h2 hb2⟩
    have HB2 := Lib.hid (HB.out.trans (hb2.mono HB.out.size))
    have HM2 := Lib.hid (HMK.out.below hb2)
    have hBs : w.heap.size < W.heap.size := by
      obtain ⟨v, h1, _⟩ := HH.out
      exact h1.lt
    have hks : (inoS l k).length = 2 * k := length_inoS (by rw [HL.out]; exact hk)
    have HKS := Lib.hid hks
    clear bL bN hW2 hcell hks
    refine wpIn_rangeFunc_ownF rfl (by omega) (gf := 210) (lb := #[.pointer (some ⟨W.heap.size, 0, none⟩), .pointer (some ⟨W.heap.size + 1, 0, none⟩)]) rfl trivial (enters_of Tryz.func210 (by kernel_rfl) rfl)
      (chunk_stopsB 4 (by omega) W.heap.size (W.heap.size + 1) b3 o3 64 c3 (by omega) hc3 W2 (by omega) (by omega) bL2.cell bN2.cell) Two.trans (fun W k o o' hk _ _ _ => ⟨World.putObj_heap_other (by omega), World.putObj_heap_other (by omega)⟩) (Below.refl _ _) (fun _ => rfl)
      (fun pre V => HoldI w.heap.size w.heap.size (inoS l k ++ pre.map fun x => (Inode.takI (part s x.1)).1) V ∧ Below w.heap.size w V ∧ Two W.heap.size (W.heap.size + 1) W2 V ∧ Marks w.heap.size ds V)
      (fun _ _ _ => False)
      (OwnFrom.and (Own.from (holdI_own _ _ _) _) (OwnFrom.and (ownFrom_below (Nat.le_refl _) (by omega)) (OwnFrom.and (fun _ V V' row hs hg hr => hs.trans ⟨hg.block _ (twoLt hs.1 bL2) (fun e => by have := (hr _ e.symm).1; omega), hg.block _ (twoLt hs.2 bN2) (fun e => by have := (hr _ e.symm).1; omega)⟩) (fun _ V V' row hs hg hr => ⟨hs.1, fun D hD => ⟨(hs.2 D hD).1, (hg.block D (hs.lt hD) (fun e => by have := (hr _ e.symm).1; have := HM2.out.lt hD; omega)).trans (hs.2 D hD).2⟩⟩))))
      (fun _ _ _ _ _ hs _ _ => hs)
      ⟨by simpa using HH2, HB2.out, Two.refl _ _ _, HM2.out⟩
      (fun x => { tmps := #[.slice (some ⟨b, o, none⟩) n c, undef, .slice none 0 0, .pointer (some ⟨w.heap.size, 0, none⟩), undef, .slice (some ⟨b3, o3, none⟩) 64 c3, chunkVB b3 o3 64 x.1, undef, undef, .slice (some ⟨b, o, none⟩) n c, .int .i64 (n : Int), .int .i64 (k : Int), .bool true, .pointer (some ⟨b, o + k, none⟩), .slice (some ⟨b3, o3, none⟩) 64 c3, .slice (some ⟨b3, o3, none⟩) 64 c3, .func (.func 210) #[] #[.pointer (some ⟨W.heap.size, 0, none⟩), .pointer (some ⟨W.heap.size + 1, 0, none⟩)], chunkVB b3 o3 64 x.1, undef, undef, undef, undef, undef, undef, undef, undef, undef, x27, undef], defers := [] }) ?assign ?body ?done ?stop
    case assign =>
      intro l' x V K hK
      gi_wp2
      exact hK
    case body =>
      rintro l' pre x V ⟨hH, hB, hTw, hMk⟩ hlen
      obtain ⟨x, hx⟩ := x
      obtain ⟨v, hbx, hrow⟩ := hH
      have hch : chunkVB b3 o3 64 x = .slice (some ⟨b3, o3 + 32 * x, none⟩) 32 32 := by
        unfold chunkVB
        rw [show min 32 (64 - 32 * x) = 32 by omega]
      have hpl : (part s x).length = 32 := by unfold part; rw [List.length_take, List.length_drop, HS64.out]; omega
      have HRP : Hid (Rd V w.heap.size (some ⟨b3, o3 + 32 * x, none⟩) (bytesV (part s x))) := Lib.hid (rd_cut (HRW.out.below hB) (32 * x) 32)
      have hVs := hB.size
      obtain ⟨nv, hnv⟩ : ∃ nv, (Inode.takI (part s x)).1 = nv := ⟨_, rfl⟩
      obtain ⟨er, her⟩ : ∃ er, (Inode.takI (part s x)).2 = er := ⟨_, rfl⟩
      have hok : Inode.Oki nv := by rw [← hnv]; exact oki_takI _
      have HTI : Hid (∀ (u : World) (A : Option Addr) (c : Nat), Rd u u.heap.size A (bytesV (part s x)) → 32 ≤ c → Calls Tryz.prog 181 #[.slice A 32 c] u fun e w' => e = .returned (.tuple #[.agg (Inode.cellsI nv).toArray, .int .i64 (er : Int)]) ∧ Below u.heap.size u w') := Lib.hid (fun u A c hr hc => by
        have := Inode.take_any (part s x) A 32 c u hpl hr hc
        rw [hnv, her] at this
        exact this)
      have HCX := Lib.hid (Inode.length_cellsI hok)
      have HC1 := Lib.hid (cellsI_one nv)
      have HSX := Lib.hid (size_ino' nv hok)
      have HNV := Lib.hid hnv
      have HOK := Lib.hid hok
      obtain ⟨ls, hls⟩ : ∃ ls, (inoS l k ++ pre.map fun x => (Inode.takI (part s x.1)).1) = ls := ⟨_, rfl⟩
      rw [hls] at hrow
      have HLS := Lib.hid hls
      have HLL : Hid (ls.length ≤ 1000) := Lib.hid (by rw [← hls, List.length_append, HKS.out, List.length_map]; omega)
      have HBX := Lib.hid hbx
      have HROW := Lib.hid hrow
      have HBV := Lib.hid hB
      have HTV := Lib.hid hTw
      have HMV := Lib.hid hMk
      clear hpl hnv her hok hls hbx hrow hB hTw hMk
      dsimp only
      rw [hch]
      clear hch
      have hd1 : 1 ≤ 5 - 1 - 1 := by omega
      obtain ⟨cx, hcx⟩ : ∃ cx, Inode.cellsI nv = cx := ⟨_, rfl⟩
      rw [hcx] at HTI HCX HC1 HSX
      have HCX2 := Lib.hid hcx
      clear hcx
      gi_wp2_with (first
        | (refine ⟨trivial, ?_⟩; gi_at_call 181; refine (CallsIn.inRound l' (callsIn_wide.2 (HTI.out _ _ _ (HRP.out.more hVs) (by omega)))).mono ?_; rintro e w8 ⟨he, hb⟩; obtain rfl := he; have HB8 := Lib.hid hb; clear hb)
        | (refine wpListIn_store_mid rfl 40 (.tmp 7) (.tmp 21) rfl w8.heap.size 0 cx.toArray rfl rfl (there_new _ _ _ _ (by simp [HCX.out])) HSX.out (all_oneCell_toArray HC1.out) ?_; have HB9 := Lib.hid (HB8.out.trans ((below_setCells (Nat.le_refl _) cx.toArray.toList 0 (al_below w8 (.cells #[.int .u8 0, .int .u8 0, .int .i64 0, .int .i64 0, .int .i64 0, .int .i64 0, .int .i64 0, .int .i64 0, .int .i64 0, .int .i64 0, .int .i64 0, .int .i64 0, .int .i64 0, .int .i64 0] 40))).mono HB8.out.size)); have HRX := Lib.hid (World.rangeAt_setCells_same (w8.alloc (.cells #[.int .u8 0, .int .u8 0, .int .i64 0, .int .i64 0, .int .i64 0, .int .i64 0, .int .i64 0, .int .i64 0, .int .i64 0, .int .i64 0, .int .i64 0, .int .i64 0, .int .i64 0, .int .i64 0] 40)) w8.heap.size 0 cx.toArray.toList (there_new _ _ _ _ (by simp [HCX.out]))); generalize ((w8.alloc (.cells #[.int .u8 0, .int .u8 0, .int .i64 0, .int .i64 0, .int .i64 0, .int .i64 0, .int .i64 0, .int .i64 0, .int .i64 0, .int .i64 0, .int .i64 0, .int .i64 0, .int .i64 0, .int .i64 0] 40)).setCells w8.heap.size 0 cx.toArray.toList) = w9 at *; have HBX9 := Lib.hid (show Boxed w9 w.heap.size 58 v from (HB9.out.block _ HBX.out.lt).trans HBX.out); have HROW9 := Lib.hid (own_below HROW.out HB9.out); have hc9 := HBX9.out.cell; obtain ⟨g2, cap, w10, hrun, hown, hgr⟩ := run_appI (w9.alloc (.cells cx.toArray 40)) 58 w.heap.size v ls ls.length rfl (HROW9.out.alloc _) nv HOK.out w9.heap.size (by rw [HCX2.out]; exact Bk.new w9 40 cx) (by have := HLL.out; omega) (by have := HB9.out.size; simp; omega); have HRUN := Lib.hid hrun; have HAPP := Lib.hid (Boxed.appended (tmp := .cells cx.toArray 40) HBX9.out (by decide) HROW9.out (by have := HB9.out.size; omega) (Nat.le_refl _) hown hgr); have HX1 := Lib.hid (box_other (v' := .slice (some ⟨g2, 0, none⟩) (ls.length + 1) cap) (k := W.heap.size) (B := w.heap.size) (((HB9.out.block _ (twoLt HTV.out.1 bL2)).trans (HTV.out.1.trans bL2)) : Boxed w9 W.heap.size 37 _) (by decide) (by omega) HROW9.out hgr); have HX2 := Lib.hid (box_other (v' := .slice (some ⟨g2, 0, none⟩) (ls.length + 1) cap) (k := W.heap.size + 1) (B := w.heap.size) (((HB9.out.block _ (twoLt HTV.out.2 bN2)).trans (HTV.out.2.trans bN2)) : Boxed w9 (W.heap.size + 1) 3 _) (by decide) (by omega) HROW9.out hgr); have hc10 := HAPP.out.1.cell; have hf10 := HAPP.out.1.frozen; clear hrun hown hgr)
        | (refine wpListIn_load_mid rfl 40 (.tmp 7) rfl w8.heap.size 0 rfl cx _ HRX.out Tryz.underlying40 rfl HSX.out ?_)
        | (refine wpListIn_buildI rfl (.tmp 24) rfl cx rfl HCX.out ?_)
        | (gi_at_builtin; refine wpListIn_append_run rfl (.tmp 23) (.tmp 25) 58 rfl rfl rfl HRUN.out ?_))
      obtain ⟨a1, a2, a3, a4, a5⟩ := HAPP.out
      have hT9 : Two W.heap.size (W.heap.size + 1) V (w10.setCell ⟨w.heap.size, 0, none⟩ (.slice (some ⟨g2, 0, none⟩) (ls.length + 1) cap)) := (Two.below (B := V.heap.size) HB9.out (twoLt HTV.out.1 bL2) (twoLt HTV.out.2 bN2)).trans ⟨HX1.out, HX2.out⟩
      have hk9 : KeepsOthers V w9 := ⟨HB9.out.size, fun k o hk _ => (HB9.out.block k (Array.getElem?_eq_some_iff.1 hk).1).trans hk⟩
      have hko := hk9.trans a4
      refine ⟨hko, hT9, ⟨_, a2, ?_⟩, (HBV.out.trans (HB9.out.mono hVs)).trans a5, HTV.out.trans hT9, HMV.out.keeps hko⟩
      have hlist : (inoS l k ++ (pre ++ [⟨x, hx⟩] : List { c : Nat // 32 * c < 64 }).map fun x => (Inode.takI (part s x.1)).1) = ls ++ [nv] := by
        rw [List.map_append, ← List.append_assoc, HLS.out]
        simp [HNV.out]
      have hun : (inoS l k ++ List.map (fun x => (Inode.takI (part s x)).1) (pre ++ [⟨x, hx⟩] : List { c : Nat // 32 * c < 64 }).unattach) = ls ++ [nv] := by
        rw [← hlist]
        congr 1
        exact List.map_map ..
      rw [hun, List.length_append, List.length_singleton]
      exact a3
    case done =>
      rintro D ys W3 hD hys ⟨hH, hB, _, hMk⟩ hK
      have hlist : (inoS l k ++ ys.map fun x => (Inode.takI (part s x.1)).1) = inoS l (k + 1) := by
        have h1 : (ys.map fun x => (Inode.takI (part s x.1)).1) = (ys.map (·.1)).map (fun x => (Inode.takI (part s x)).1) := by rw [List.map_map]; rfl
        rw [h1, hys, range_two, inoS_step HSL.out]
      rw [hlist] at hH
      have HH3 := Lib.hid hH
      have HB3 := Lib.hid hB
      have HM3 := Lib.hid (hMk.cons (D := D) (by omega) hK (fun E hE => by have := HM2.out.lt hE; omega))
      clear hH hB hMk hK hys hlist
      gi_wp2
      refine ⟨⟨k + 1, D :: ds, _, _, _, _, _, _, _, rfl, hlt, HH3.out, HB3.out, HM3.out⟩, ?_⟩
      simp [intOf]; omega
    case stop =>
      rintro D c pre W _ _ h _
      exact h.elim
  · obtain rfl : k = n := by omega
    obtain ⟨v, hbx, hrow⟩ := HH.out
    have hc := hbx.cell
    have hks : (inoS l k).length = 2 * k := length_inoS (by rw [HL.out]; exact hk)
    rw [hks] at hrow
    have HROW := Lib.hid hrow
    clear hbx hrow hks
    gi_wp2
    refine leaves_all (base := w.heap.size) (fun V => V.ownsRow w.heap.size 40 14 v (2 * k) (inosV (inoS l k)) ∧ Below w.heap.size w V) (fun V D h h1 h2 => ?_) (fun V h => ⟨_, results_tmp rfl _ _ _, v, rfl, h.1, h.2⟩) ds W HMK.out.1 HMK.out.2 ⟨HROW.out, HB.out⟩
    have hnc : ∀ r, some D = some r → ∃ o : Obj, V.heap[r]? = some o ∧ o.isCells = false := fun r e => by cases e; exact ⟨_, h2, rfl⟩
    exact ⟨own_nc h.1 (grownBy_putObj' V D _) hnc, h.2.trans ((Below.refl w.heap.size V).grown (grownBy_putObj' V D _) h.2.size (fun k e => by cases e; omega))⟩
end Go.Proofs.YtcjkbmmjpkghlaaGreat.Meta
