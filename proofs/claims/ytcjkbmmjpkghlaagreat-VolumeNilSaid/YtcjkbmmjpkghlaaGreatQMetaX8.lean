/-
  Package meta: Lay.
-/
import Derived.Test.YtcjkbmmjpkghlaaGreatQMetaX7
import Derived.Test.YtcjkbmmjpkghlaaGreatQMetaX4
import Derived.Test.YtcjkbmmjpkghlaaGreatQMetaX2
import Derived.Test.YtcjkbmmjpkghlaaGreatQInternB
namespace Go.Proofs.YtcjkbmmjpkghlaaGreat.Meta
open Go.Proofs.YtcjkbmmjpkghlaaGreat
open Go.RowKit

theorem secsV_append {L L2 : List Sc} {l l2 : List (List UInt8)} (h : L.length = l.length) : secsV (L ++ L2) (l ++ l2) = secsV L l ++ secsV L2 l2 := by
  unfold secsV
  rw [List.zip_append h, List.map_append]
/-- append of sectors to sectors, all of them the call's own. -/
theorem wpList_secs (w : World) {ops : Array Oper} {rest : List Oper} {o : Oper} {a : Act} {Q : Exit → Act → World → Prop} (hgd : o.guard = none) (s x : Operand)
    (ho : o.op = .call { callee := .builtin .append, args := #[s, x], argTypes := #[100, 100] })
    (base : Nat) (v v2 : Value) (L L2 : List Sc) (l l2 : List (List UInt8)) (hs : a.eval s = v) (hown : SecsOwn w base v L l) (hx : a.eval x = v2) (hown2 : SecsOwn w base v2 L2 l2)
    (h63 : l.length ≤ 100000) (h64 : l2.length ≤ 100000) (hbase : base ≤ w.heap.size)
    (h : ∀ v' w', SecsOwn w' base v' (L ++ L2) (l ++ l2) → w.grownBy w' v.ownBlock → wpList Tryz.prog ops Q rest (a.put o.dst v') w') : wpList Tryz.prog ops Q (o :: rest) a w := by
  obtain ⟨i0, hi, hz0, hz1, hz2⟩ := info_parts info_bytes
  obtain ⟨A2, c2, rfl⟩ := hown2.slice
  obtain ⟨-, -, -, hat⟩ := hown2.at_
  refine wpList_app w hgd s x 100 ho base 37 i0 _ 24 Tryz.underlying100 hi hz0 hz1 hz2 rfl v l.length (secsV L l) hs hown.row w.heap.size A2 l2.length c2 (secsV L2 l2) hx (length_secsV hown2.len) hat.rd (secsV_one L2 l2) (by unfold maxLen; omega) (by omega) hbase fun v' w' h1 h2 => h v' w' ⟨?_, ?_, ?_⟩ h2
  · simp [hown.len, hown2.len]
  · rw [List.length_append, secsV_append hown.len]
    exact h1
  · intro i s' b' g1 g2
    by_cases hi : i < l.length
    · rw [List.getElem?_append_left (by rw [hown.len]; exact hi)] at g1
      rw [List.getElem?_append_left hi] at g2
      exact (hown.each i s' b' g1 g2).kept h2 (own_ne (hown.each i s' b' g1 g2) hown.row (by decide))
    · rw [List.getElem?_append_right (by rw [hown.len]; omega), hown.len] at g1
      rw [List.getElem?_append_right (by omega)] at g2
      exact (hown2.each _ s' b' g1 g2).kept h2 (own_ne (hown2.each _ s' b' g1 g2) hown.row (by decide))
set_option maxRecDepth 100000 in
set_option maxHeartbeats 3200000 in
theorem lay_in (j i g p : Int) (m : Met) (ho : Okm m) (rA oA uA iA : Option Addr) (rn rc on_ oc un uc in_ ic : Nat) (w : World) (hrn : m.rows.length = rn) (hon : m.own.length = on_) (hun : m.used.length = un) (hin : m.ino.length = in_)
    (hl : Lies w w.heap.size ⟨rA, rc, oA, oc, uA, uc, iA, ic⟩ m) (hs : on_ ≤ 1000000 ∧ un ≤ 1000000 ∧ in_ ≤ 1000000) :
    Calls Tryz.prog 55 #[.agg #[.int .i64 j, .int .i64 i, .int .i64 g, .int .i64 p], .agg #[.slice rA rn rc, .slice oA on_ oc, .slice uA un uc, .slice iA in_ ic]] w fun e w' => HandsL w (layM ⟨j, i, g, p⟩ m) e w' := by
  have HL := Lib.hid hl
  have HO := Lib.hid ho
  obtain ⟨rb, hrb⟩ : ∃ rb, rightB ⟨j, i, g, p⟩ m = rb := ⟨_, rfl⟩
  have HRT : Hid (∀ u : World, Below w.heap.size w u → Calls Tryz.prog 103 #[.agg #[.int .i64 j, .int .i64 i, .int .i64 g, .int .i64 p], .agg #[.slice rA rn rc, .slice oA on_ oc, .slice uA un uc, .slice iA in_ ic]] u fun e w' => e = .returned (.bool rb) ∧ Below u.heap.size u w') := Lib.hid (fun u hu => by
    have := right_in j i g p m ho rA oA uA iA rn rc on_ oc un uc in_ ic u hrn hon hun hin ((hl.below hu).more hu.size) hs
    rwa [hrb] at this)
  obtain ⟨W, hW⟩ : ∃ W, W = (w.alloc (.cells #[.int .i64 j, .int .i64 i, .int .i64 g, .int .i64 p] 29)).alloc (.cells #[.slice rA rn rc, .slice oA on_ oc, .slice uA un uc, .slice iA in_ ic] 60) := ⟨_, rfl⟩
  have hbW : Below w.heap.size w W := by rw [hW]; exact (Below.refl _ _).alloc (Nat.le_refl _) _ |>.alloc (by simp) _
  have hG : Bk W w.heap.size 29 [.int .i64 j, .int .i64 i, .int .i64 g, .int .i64 p] := by rw [hW]; exact (Bk.new w 29 [.int .i64 j, .int .i64 i, .int .i64 g, .int .i64 p]).below ((Below.refl _ _).alloc (Nat.le_refl _) _) (by simp)
  have hM : Bk W (w.heap.size + 1) 60 [.slice rA rn rc, .slice oA on_ oc, .slice uA un uc, .slice iA in_ ic] := by
    rw [hW]
    have := Bk.new (w.alloc (.cells #[.int .i64 j, .int .i64 i, .int .i64 g, .int .i64 p] 29)) 60 [.slice rA rn rc, .slice oA on_ oc, .slice uA un uc, .slice iA in_ ic]
    simpa using this
  have HM := Lib.hid hM
  have HB := Lib.hid hbW
  have HW := Lib.hid hW
  obtain ⟨g0, g1, g2, g3⟩ := four_cells hG
  obtain ⟨m0, m1, m2, m3⟩ := four_cells hM
  clear hbW hG hM hW
  by_cases hR : Right ⟨j, i, g, p⟩ m
  rotate_left
  · rw [lay_no hR]
    rw [rightB_no hR] at hrb
    subst hrb
    clear hl hR hrn hon hun hin
    go_enter Tryz.func55, Tryz.ntmps55
    go_upto_region 1 with fail
    rw [← HW.out]
    go_wp2_with (go_at_call 103; (with_reducible refine (HRT.out _ HB.out).mono ?_); rintro e w1 ⟨he, hb⟩; obtain rfl := he; replace HB := Lib.hid (HB.out.trans (hb.mono HB.out.size)); clear hb)
    go_ret2
    exact ⟨_, [], rfl, SecsOwn.nil _ _, HB.out⟩
  rw [lay_yes hR]
  rw [rightB_yes hR] at hrb
  subst hrb
  have hun64 := hR.ulen
  have hon64 := hR.own64
  have hin64 := hR.ino64
  have hev := hR.even
  have hi1 := hR.geo.i1
  have hil := hR.ilen
  simp only at hi1 hil
  rw [hun] at hun64
  subst hun64
  rw [hon] at hon64
  rw [hin] at hin64 hev hil
  have hin0 : 0 < in_ := by omega
  have HUN := Lib.hid hun
  have HR := Lib.hid hR
  obtain ⟨bi, oi, hiA, hbi⟩ := rd_first HL.out.ino (by rw [length_inosV HO.out.ino, hin]; omega)
  have hiA : iA = some ⟨bi, oi, none⟩ := hiA
  subst hiA
  have hicc := hl.ic
  rw [hin] at hicc
  have HRL : Hid (∀ u : World, Below w.heap.size w u → Calls Tryz.prog 104 #[.slice rA rn rc] u fun e w' => Intern.HandsB u (Intern.bytesOf m.rows) 0 e w') := Lib.hid (fun u hu => by
    have := Intern.lay_rows m.rows rA rn rc u hrn ((HL.out.rows.below hu).more hu.size) HO.out.rows
    rwa [Intern.layR_yes HR.out.rows] at this)
  have HFO : Hid (∀ u : World, Below w.heap.size w u → Calls Tryz.prog 105 #[.slice oA on_ oc] u fun e w' => ∃ v, e = .returned v ∧ Made u (padl (ownL m.own) 64) v w') := Lib.hid (fun u hu => layown_any m.own HR.out.own oA on_ oc u hon ((HL.out.own.below hu).more hu.size) hon64)
  have HCB : Hid (∀ u : World, Below w.heap.size w u → Calls Tryz.prog 106 #[.slice uA 64 uc] u fun e w' => e = .returned (.slice (some ⟨u.heap.size, 0, none⟩) 64 64) ∧ w' = u.alloc (.cells (bytesV m.used).toArray 5)) := Lib.hid (fun u hu => copied_u8 (bytesV m.used) uA 64 uc u (by rw [length_bytesV, hun]) (bytesV_one _) ((HL.out.used.below hu).more hu.size) (by omega))
  have HLI : Hid (∀ u : World, Below w.heap.size w u → Calls Tryz.prog 107 #[.slice (some ⟨bi, oi, none⟩) in_ ic] u fun e w' => ∃ v L, e = .returned v ∧ SecsOwn w' u.heap.size v L (pairs m.ino) ∧ Below u.heap.size u w') := Lib.hid (fun u hu => layino_any m.ino HO.out.ino HR.out.ino bi oi in_ ic u hin hev hin0 hin64 hicc.1 ((HL.out.ino.below hu).more hu.size))
  have HLR : Hid ((Intern.bytesOf m.rows).length = 64) := Lib.hid (by rw [Intern.length_bytesOf, HR.out.rows.len])
  have HLO : Hid ((padl (ownL m.own) 64).length = 64) := Lib.hid (length_padl _ _ (by rw [length_ownL, hon]; exact hon64))
  have HLP : Hid ((pairs m.ino).length ≤ 100) := Lib.hid (by rw [length_pairs HR.out.even, hin]; omega)
  clear hl hR hrn hon hun hin hev hi1 hil hicc hbi
  go_enter Tryz.func55, Tryz.ntmps55
  go_upto_region 1 with fail
  rw [← HW.out]
  go_upto_region 4 with (first
    | (go_at_call 103; (with_reducible refine (HRT.out _ HB.out).mono ?_); rintro e w1 ⟨he, hb⟩; obtain rfl := he; replace HM := Lib.hid (HM.out.below hb HM.out.lt); replace HB := Lib.hid (HB.out.trans (hb.mono HB.out.size)); clear hb g0 g1 g2 g3 m0 m1 m2 m3; obtain ⟨m0, m1, m2, m3⟩ := four_cells HM.out)
    | (go_at_call 104; (with_reducible refine (HRL.out _ HB.out).mono ?_); rintro e w2 ⟨v8, he, ho8, hb⟩; obtain rfl := he; rw [HLR.out] at ho8; obtain ⟨A8, c8, hv8⟩ := own_slice ho8; subst hv8; have HO8 := Lib.hid (own_mono ho8 HB.out.size); replace HM := Lib.hid (HM.out.below hb HM.out.lt); replace HB := Lib.hid (HB.out.trans (hb.mono HB.out.size)); clear m0 m1 m2 m3 hb ho8))
  have hS0 : Below w.heap.size w w2.drew ∧ Bk w2.drew (w.heap.size + 1) 60 [.slice rA rn rc, .slice oA on_ oc, .slice uA 64 uc, .slice (some ⟨bi, oi, none⟩) in_ ic] ∧ w2.drew.ownsRow w.heap.size 5 1 (.slice A8 64 c8) 64 (bytesV (Intern.bytesOf m.rows)) := ⟨HB.out.drew, HM.out, HO8.out⟩
  refine wp_region_held_drew (S := fun u => Below w.heap.size w u ∧ Bk u (w.heap.size + 1) 60 [.slice rA rn rc, .slice oA on_ oc, .slice uA 64 uc, .slice (some ⟨bi, oi, none⟩) in_ ic] ∧ u.ownsRow w.heap.size 5 1 (.slice A8 64 c8) 64 (bytesV (Intern.bytesOf m.rows))) (by kernel_rfl) hS0 (fun hHeld => ?_)
  refine wpAnyH_take (i := 0) (oi := _) (v := ?_) (by simp only [List.getElem?_toArray, List.getElem?_cons_zero]; rfl) (by kernel_rfl) (by kernel_rfl) (by kernel_rfl) (by exact fun _ _ _ h => h) (Or.inl ⟨by rfl, ?hya0⟩) (by exact hHeld) ?rea0
  case hya0 => (intro u hu; obtain ⟨m0, m1, m2, m3⟩ := four_cells hu.2.1; clear hu; go_simp <;> with_reducible rfl)
  try simp only [Act.put, List.setIfInBounds_toArray, List.set_cons_zero, List.set_cons_succ]
  refine wpAnyH_take (i := 1) (oi := _) (v := ?_) (by simp only [List.getElem?_toArray, List.getElem?_cons_succ, List.getElem?_cons_zero]; rfl) (by kernel_rfl) (by kernel_rfl) (by kernel_rfl) (by exact fun _ _ _ h => h) (Or.inl ⟨by rfl, ?hya1⟩) (by exact hHeld) ?rea1
  case hya1 => (intro u hu; obtain ⟨m0, m1, m2, m3⟩ := four_cells hu.2.1; clear hu; go_simp <;> with_reducible rfl)
  try simp only [Act.put, List.setIfInBounds_toArray, List.set_cons_zero, List.set_cons_succ]
  refine wpAnyH_take (i := 2) (oi := _) (v := ?_) (by simp only [List.getElem?_toArray, List.getElem?_cons_succ, List.getElem?_cons_zero]; rfl) (by kernel_rfl) (by kernel_rfl) (by kernel_rfl) (by exact fun _ _ _ h => h) (Or.inl ⟨by rfl, ?hya2⟩) (by exact hHeld) ?rea2
  case hya2 => (intro u hu; obtain ⟨m0, m1, m2, m3⟩ := four_cells hu.2.1; clear hu; go_simp <;> with_reducible rfl)
  try simp only [Act.put, List.setIfInBounds_toArray, List.set_cons_zero, List.set_cons_succ]
  refine wpAnyH_take (i := 4) (oi := _) (v := ?_) (by simp only [List.getElem?_toArray, List.getElem?_cons_succ, List.getElem?_cons_zero]; rfl) (by kernel_rfl) (by kernel_rfl) (by kernel_rfl) (by exact fun _ _ _ h => h) (Or.inl ⟨by rfl, ?hya4⟩) (by exact hHeld) ?rea4
  case hya4 => (intro u hu; obtain ⟨m0, m1, m2, m3⟩ := four_cells hu.2.1; clear hu; go_simp <;> with_reducible rfl)
  try simp only [Act.put, List.setIfInBounds_toArray, List.set_cons_zero, List.set_cons_succ]
  refine wpAnyH_take (i := 5) (oi := _) (v := ?_) (by simp only [List.getElem?_toArray, List.getElem?_cons_succ, List.getElem?_cons_zero]; rfl) (by kernel_rfl) (by kernel_rfl) (by kernel_rfl) (by exact fun _ _ _ h => h) (Or.inl ⟨by rfl, ?hya5⟩) (by exact hHeld) ?rea5
  case hya5 => (intro u hu; obtain ⟨m0, m1, m2, m3⟩ := four_cells hu.2.1; clear hu; go_simp <;> with_reducible rfl)
  try simp only [Act.put, List.setIfInBounds_toArray, List.set_cons_zero, List.set_cons_succ]
  refine wpAnyH_ready (rs := [3]) (by kernel_rfl) (by simp) ?_
  refine AllReadyH.cons (o := _) (by simp only [List.getElem?_toArray, List.getElem?_cons_succ, List.getElem?_cons_zero]; rfl) (fun K hK => ?_) AllReadyH.nil
  go_simp
  (with_reducible refine (HFO.out _ hHeld.1).mono ?_)
  rintro e w3 ⟨v9, he, ho9, hb⟩; obtain rfl := he
  rw [HLO.out] at ho9
  obtain ⟨A9, c9, hv9⟩ := own_slice ho9; subst hv9
  have HO9 := Lib.hid (own_mono ho9 hHeld.1.size)
  have hH3 : Below w.heap.size w w3 ∧ Bk w3 (w.heap.size + 1) 60 [.slice rA rn rc, .slice oA on_ oc, .slice uA 64 uc, .slice (some ⟨bi, oi, none⟩) in_ ic] ∧ w3.ownsRow w.heap.size 5 1 (.slice A8 64 c8) 64 (bytesV (Intern.bytesOf m.rows)) := ⟨hHeld.1.trans (hb.mono hHeld.1.size), hHeld.2.1.below hb hHeld.2.1.lt, own_below hHeld.2.2 hb⟩
  clear hb ho9
  go_simp
  refine hK.out _ _ hH3 (fun hHeld2 => ?_)
  clear hK K hHeld hH3 hS0
  have hHeld := hHeld2
  clear hHeld2
  try simp only [Act.put, List.setIfInBounds_toArray, List.set_cons_zero, List.set_cons_succ]
  refine wpAnyH_ready (rs := [6]) (by kernel_rfl) (by simp) ?_
  refine AllReadyH.cons (o := _) (by simp only [List.getElem?_toArray, List.getElem?_cons_succ, List.getElem?_cons_zero]; rfl) (fun K hK => ?_) AllReadyH.nil
  go_simp
  (with_reducible refine (HCB.out _ hHeld.1).mono ?_)
  rintro e w4 ⟨he, hw⟩; obtain rfl := he
  have HO10 : Hid (w4.ownsRow w.heap.size 5 1 (.slice (some ⟨w3.heap.size, 0, none⟩) 64 64) 64 (bytesV m.used)) := Lib.hid (by rw [hw]; exact bk_own (Bk.new w3 5 (bytesV m.used)) hHeld.1.size (by rw [length_bytesV, HUN.out]) rfl (by unfold maxLen; omega))
  replace HO9 := Lib.hid (show w4.ownsRow _ _ _ _ _ _ by rw [hw]; exact HO9.out.alloc _)
  have hH4 : Below w.heap.size w w4 ∧ Bk w4 (w.heap.size + 1) 60 [.slice rA rn rc, .slice oA on_ oc, .slice uA 64 uc, .slice (some ⟨bi, oi, none⟩) in_ ic] ∧ w4.ownsRow w.heap.size 5 1 (.slice A8 64 c8) 64 (bytesV (Intern.bytesOf m.rows)) := by rw [hw]; exact ⟨hHeld.1.alloc hHeld.1.size _, bk_alloc hHeld.2.1 _, hHeld.2.2.alloc _⟩
  clear hw
  go_simp
  refine hK.out _ _ hH4 (fun hHeld2 => ?_)
  clear hK K hHeld hH4
  have hHeld := hHeld2
  clear hHeld2
  try simp only [Act.put, List.setIfInBounds_toArray, List.set_cons_zero, List.set_cons_succ]
  refine wpAnyH_ready (rs := [7]) (by kernel_rfl) (by simp) ?_
  refine AllReadyH.cons (o := _) (by simp only [List.getElem?_toArray, List.getElem?_cons_succ, List.getElem?_cons_zero]; rfl) (fun K hK => ?_) AllReadyH.nil
  go_simp
  have hH5 : Below w.heap.size w (w4.alloc (.cells #[.slice A8 64 c8, .slice A9 64 c9, .slice (some ⟨w3.heap.size, 0, none⟩) 64 64] 37)) ∧ Bk (w4.alloc (.cells #[.slice A8 64 c8, .slice A9 64 c9, .slice (some ⟨w3.heap.size, 0, none⟩) 64 64] 37)) (w.heap.size + 1) 60 [.slice rA rn rc, .slice oA on_ oc, .slice uA 64 uc, .slice (some ⟨bi, oi, none⟩) in_ ic] ∧ (w4.alloc (.cells #[.slice A8 64 c8, .slice A9 64 c9, .slice (some ⟨w3.heap.size, 0, none⟩) 64 64] 37)).ownsRow w.heap.size 5 1 (.slice A8 64 c8) 64 (bytesV (Intern.bytesOf m.rows)) := ⟨hHeld.1.alloc hHeld.1.size _, bk_alloc hHeld.2.1 _, hHeld.2.2.alloc _⟩
  have HS0 := Lib.hid (heads_own (m := m) HLR.out HLO.out HUN.out (Bk.new w4 37 [.slice A8 64 c8, .slice A9 64 c9, .slice (some ⟨w3.heap.size, 0, none⟩) 64 64]) hHeld.1.size hH5.2.2 (HO9.out.alloc _) (HO10.out.alloc _))
  refine hK.out _ _ hH5 (fun hHeld2 => ?_)
  clear hK K hHeld hH5
  have hHeld := hHeld2
  clear hHeld2
  try simp only [Act.put, List.setIfInBounds_toArray, List.set_cons_zero, List.set_cons_succ]
  refine wpAnyH_take (i := 8) (oi := _) (v := ?_) (by simp only [List.getElem?_toArray, List.getElem?_cons_succ, List.getElem?_cons_zero]; rfl) (by kernel_rfl) (by kernel_rfl) (by kernel_rfl) (by exact fun _ _ _ h => h) (Or.inl ⟨by rfl, ?hya8⟩) (by exact hHeld) ?rea8
  case hya8 => (intro u hu; obtain ⟨m0, m1, m2, m3⟩ := four_cells hu.2.1; clear hu; go_simp <;> with_reducible rfl)
  try simp only [Act.put, List.setIfInBounds_toArray, List.set_cons_zero, List.set_cons_succ]
  refine wpAnyH_done (by kernel_rfl) ?_ _
  have HB5 := Lib.hid hHeld.1
  have HM5 := Lib.hid hHeld.2.1
  clear hHeld
  generalize (w4.alloc (.cells #[.slice A8 64 c8, .slice A9 64 c9, .slice (some ⟨w3.heap.size, 0, none⟩) 64 64] 37)) = w5 at *
  obtain ⟨m0, m1, m2, m3⟩ := four_cells HM5.out
  obtain ⟨Lh, hS⟩ : ∃ Lh, SecsOwn w5 w.heap.size (.slice (some ⟨w4.heap.size, 0, none⟩) 3 3) Lh (heads m) := ⟨_, HS0.out⟩
  have HS := Lib.hid hS
  clear HS0 hS
  go_wp2_with (first
    | (go_at_call 107; (with_reducible refine (HLI.out _ HB5.out).mono ?_); rintro e w6 ⟨v6, L6, he, ho6, hb⟩; obtain rfl := he; have HO6 := Lib.hid (ho6.base HB5.out.size); have HS6 := Lib.hid (HS.out.below hb); have HB6 := Lib.hid (HB5.out.trans (hb.mono HB5.out.size)); clear m0 m1 m2 m3 hb ho6)
    | (at_builtin; refine wpList_secs _ rfl (.tmp 27) (.tmp 30) rfl w.heap.size _ _ Lh L6 (heads m) (pairs m.ino) rfl HS6.out rfl HO6.out (by show 3 ≤ 100000; omega) (by have := HLP.out; omega) HB6.out.size ?_; intro v7 w7 hs7 hg7; have HS7 := Lib.hid hs7; have HB7 := Lib.hid (HB6.out.grown hg7 HB6.out.size (fun k hk => (HS6.out.row.lt k hk).1)); clear hs7 hg7))
  go_ret2
  exact ⟨_, _, rfl, HS7.out, HB7.out⟩
theorem lay_any (G : Geo) (m : Met) (ho : Okm m) (x : Mem) (w : World) (hl : Lies w w.heap.size x m) (hs : m.own.length ≤ 1000000 ∧ m.used.length ≤ 1000000 ∧ m.ino.length ≤ 1000000) :
    Calls Tryz.prog 55 #[.agg #[.int .i64 G.j, .int .i64 G.i, .int .i64 G.g, .int .i64 G.p], x.v m] w fun e w' => HandsL w (layM G m) e w' :=
  lay_in G.j G.i G.g G.p m ho x.rA x.oA x.uA x.iA _ x.rc _ x.oc _ x.uc _ x.ic w rfl rfl rfl rfl hl hs
end Go.Proofs.YtcjkbmmjpkghlaaGreat.Meta
