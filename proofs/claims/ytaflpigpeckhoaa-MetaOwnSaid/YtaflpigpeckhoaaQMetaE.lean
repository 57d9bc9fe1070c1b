/-
  What is known compared with itself in another place, as the document answers.
-/
import Derived.Test.YtaflpigpeckhoaaQMetaQ
import Derived.WalkMore
import Derived.Deep.DeepCutAuto
namespace Go.Proofs.Ytaflpigpeckhoaa.Meta
open Go.Proofs.Ytaflpigpeckhoaa
open Go.RowKit

theorem size_inoE : (Try.prog.info? 52).map (·.size) = some 14 := by kernel_rfl
theorem ino_load (u : World) (b o : Nat) (n : Inode.Ino) (ho : Inode.Oki n) (h : u.rangeAt b o (Inode.cellsI n)) : (Instr.loadAt 52 (.pointer (some ⟨b, o, none⟩))).run Try.prog u = .ok (Inode.inoV n) u :=
  run_loadAt_mid u b o 52 (Inode.cellsI n) _ h Try.underlying52 rfl (by rw [size_inoE, Inode.length_cellsI ho])
theorem range_drewN {u : World} {b o : Nat} {cs : List Value} (h : u.rangeAt b o cs) (k : Nat) : (u.drewN k).rangeAt b o cs := h
set_option maxRecDepth 100000 in
set_option maxHeartbeats 3200000 in
theorem rsame_in (m : Met) (ho : Okm m) (rA oA uA iA rB oB uB iB : Option Addr) (rn rc on_ oc un uc in_ ic rd od ud id : Nat) (w : World) (hrn : m.rows.length = rn) (hon : m.own.length = on_) (hun : m.used.length = un) (hin : m.ino.length = in_)
    (hl : Lies w w.heap.size ⟨rA, rc, oA, oc, uA, uc, iA, ic⟩ m) (hk : Lies w w.heap.size ⟨rB, rd, oB, od, uB, ud, iB, id⟩ m) (hs : rn ≤ 1000000 ∧ on_ ≤ 1000000 ∧ un ≤ 1000000 ∧ in_ ≤ 1000000) :
    Calls Try.prog 15 #[.agg #[.slice rA rn rc, .slice oA on_ oc, .slice uA un uc, .slice iA in_ ic], .agg #[.slice rB rn rd, .slice oB on_ od, .slice uB un ud, .slice iB in_ id]] w fun e w' => e = .returned (.bool true) ∧ Below w.heap.size w w' := by
  have HL := Lib.hid hl
  have HK := Lib.hid hk
  have HO := Lib.hid ho
  have HRN := Lib.hid hrn
  have HON := Lib.hid hon
  have HUN := Lib.hid hun
  have HIN := Lib.hid hin
  obtain ⟨rs1, os1, us1, is1⟩ := hs
  obtain ⟨W, hW⟩ : ∃ W, W = (w.alloc (.cells #[.slice rA rn rc, .slice oA on_ oc, .slice uA un uc, .slice iA in_ ic] 29)).alloc (.cells #[.slice rB rn rd, .slice oB on_ od, .slice uB un ud, .slice iB in_ id] 29) := ⟨_, rfl⟩
  have hbW : Below w.heap.size w W := by rw [hW]; exact (Below.refl _ _).alloc (Nat.le_refl _) _ |>.alloc (by simp) _
  have hG : Bk W w.heap.size 29 [.slice rA rn rc, .slice oA on_ oc, .slice uA un uc, .slice iA in_ ic] := by rw [hW]; exact (Bk.new w 29 [.slice rA rn rc, .slice oA on_ oc, .slice uA un uc, .slice iA in_ ic]).below ((Below.refl _ _).alloc (Nat.le_refl _) _) (by simp)
  have hM : Bk W (w.heap.size + 1) 29 [.slice rB rn rd, .slice oB on_ od, .slice uB un ud, .slice iB in_ id] := by
    rw [hW]
    have := Bk.new (w.alloc (.cells #[.slice rA rn rc, .slice oA on_ oc, .slice uA un uc, .slice iA in_ ic] 29)) 29 [.slice rB rn rd, .slice oB on_ od, .slice uB un ud, .slice iB in_ id]
    simpa using this
  have HG := Lib.hid hG
  have HM := Lib.hid hM
  have HB := Lib.hid hbW
  have HW := Lib.hid hW
  obtain ⟨g0, g1, g2, g3⟩ := four_cells HG.out
  obtain ⟨m0, m1, m2, m3⟩ := four_cells HM.out
  have HC : Hid (∀ u : World, Below w.heap.size w u → Calls Try.prog 32 #[.slice rA rn rc, .slice rB rn rd] u fun e w' => e = .returned (.bool true) ∧ Below u.heap.size u w') := Lib.hid (fun u hu =>
    (Intern.same_true m.rows rA rB rn rc rd w.heap.size w.heap.size u HRN.out (HL.out.rows.below hu) (HK.out.rows.below hu) (by omega)).mono fun e w' ⟨h1, q, h2⟩ => ⟨h1, by rw [h2]; exact below_drewN (Below.refl _ _) q⟩)
  clear hl hk hrn hon hun hin hbW hG hM hW
  go_enter Try.func15, Try.ntmps15
  go_upto_region 1 with fail
  rw [← HW.out]
  obtain ⟨U, hU⟩ : ∃ U : ByteArray, (⟨m.used.toArray⟩ : ByteArray) = U := ⟨_, rfl⟩
  have HUU := Lib.hid hU
  clear hU
  go_wp2_with (go_at_call 32; (with_reducible refine (HC.out _ HB.out).mono ?_); rintro e w1 ⟨he, hb⟩; obtain rfl := he; clear g0 g1 g2 g3 m0 m1 m2 m3; replace HG := Lib.hid (HG.out.below hb HG.out.lt); replace HM := Lib.hid (HM.out.below hb HM.out.lt); replace HB := Lib.hid (HB.out.trans (hb.mono HB.out.size)); obtain ⟨g0, g1, g2, g3⟩ := four_cells HG.out; obtain ⟨m0, m1, m2, m3⟩ := four_cells HM.out; have ku := str_sec (c := uc) HUN.out (HL.out.used.below HB.out); have kv := str_sec (c := ud) HUN.out (HK.out.used.below HB.out); rw [HUU.out] at ku kv; clear hb)
  clear ku kv g0 g1 g2 g3 m0 m1 m2 m3
  go_loopw [5] (fun k wr => ∃ a : Nat, k = .int .i64 (a : Int) ∧ a ≤ on_ ∧ Hid (Bk wr w.heap.size 29 [.slice rA rn rc, .slice oA on_ oc, .slice uA un uc, .slice iA in_ ic]) ∧ Hid (Bk wr (w.heap.size + 1) 29 [.slice rB rn rd, .slice oB on_ od, .slice uB un ud, .slice iB in_ id]) ∧ Hid (Below w.heap.size w wr)) (fun k _ => on_ - (intOf k).toNat)
  case atStart => exact ⟨0, rfl, Nat.zero_le _, HG, HM, HB⟩
  case round =>
    obtain ⟨a, rfl, ha, HG1, HM1, HB1⟩ := hrel
    obtain ⟨g0, g1, g2, g3⟩ := four_cells HG1.out
    obtain ⟨m0, m1, m2, m3⟩ := four_cells HM1.out
    by_cases hlt : a < on_
    · obtain ⟨x, hx⟩ : ∃ x, m.own[a]? = some x := ⟨_, List.getElem?_eq_getElem (by rw [HON.out]; exact hlt)⟩
      obtain ⟨b1, o1, h1, -⟩ := rd_first HL.out.own (by rw [Inode.length_intsV, HON.out]; omega)
      obtain ⟨b2, o2, h2, -⟩ := rd_first HK.out.own (by rw [Inode.length_intsV, HON.out]; omega)
      have h1 : oA = some ⟨b1, o1, none⟩ := h1
      have h2 : oB = some ⟨b2, o2, none⟩ := h2
      subst h1 h2
      have hcx := rd_int (HL.out.own.below HB1.out) hx
      have hcy := rd_int (HK.out.own.below HB1.out) hx
      have hlti : (a : Int) < (on_ : Int) := by omega
      have ha0 : (0 : Int) ≤ (a : Int) := by omega
      have haw : IntKind.i64.wrap ((a : Int) + 1) = ((a + 1 : Nat) : Int) := by rw [IntKind.wrap_i64]; omega
      clear hx
      go_wp2_with fail
      go_quiet (fail)
      go_wp2
      have HG7 := Lib.hid (show Bk (wr.drewN nq) w.heap.size 29 _ from HG1.out)
      have HM7 := Lib.hid (show Bk (wr.drewN nq) (w.heap.size + 1) 29 _ from HM1.out)
      have HB7 := Lib.hid (below_drewN HB1.out nq)
      go_roundw
      case rel => exact ⟨a + 1, by first | rfl | (congr 1), hlt, HG7, HM7, HB7⟩
      case measure => simp [intOf]; omega
    · obtain rfl : on_ = a := by omega
      clear HG HM HB
      go_wp2
      clear g0 g1 g2 g3 m0 m1 m2 m3
      go_loopw [6] (fun k wr => ∃ a : Nat, k = .int .i64 (a : Int) ∧ a ≤ in_ ∧ Hid (Bk wr w.heap.size 29 [.slice rA rn rc, .slice oA on_ oc, .slice uA un uc, .slice iA in_ ic]) ∧ Hid (Bk wr (w.heap.size + 1) 29 [.slice rB rn rd, .slice oB on_ od, .slice uB un ud, .slice iB in_ id]) ∧ Hid (Below w.heap.size w wr)) (fun k _ => in_ - (intOf k).toNat)
      case atStart => exact ⟨0, rfl, Nat.zero_le _, HG1, HM1, HB1⟩
      case round =>
        obtain ⟨a, rfl, ha, HG, HM, HB⟩ := hrel
        clear HG1 HM1 HB1
        obtain ⟨g0, g1, g2, g3⟩ := four_cells HG.out
        obtain ⟨m0, m1, m2, m3⟩ := four_cells HM.out
        by_cases hlt : a < in_
        · obtain ⟨x, hx⟩ : ∃ x, m.ino[a]? = some x := ⟨_, List.getElem?_eq_getElem (by rw [HIN.out]; exact hlt)⟩
          have hox := HO.out.ino x (List.mem_of_getElem? hx)
          obtain ⟨b1, o1, h1, -⟩ := rd_first HL.out.ino (by rw [length_inosV HO.out.ino, HIN.out]; omega)
          obtain ⟨b2, o2, h2, -⟩ := rd_first HK.out.ino (by rw [length_inosV HO.out.ino, HIN.out]; omega)
          have h1 : iA = some ⟨b1, o1, none⟩ := h1
          have h2 : iB = some ⟨b2, o2, none⟩ := h2
          subst h1 h2
          have hax := rd_ino (HL.out.ino.below HB.out) HO.out.ino hx
          have hay := rd_ino (HK.out.ino.below HB.out) HO.out.ino hx
          have hsz : (Try.prog.info? 52).map (·.size) = some (Inode.cellsI x).length := by rw [size_inoE, Inode.length_cellsI hox]
          have hne : ∀ u : World, (binOp .neq 52 (Inode.inoV x) (Inode.inoV x)).run Try.prog u = .ok (.bool false) u := fun u => by
            have := Inode.ino_neq u x x hox hox
            rwa [Inode.decB_yes rfl] at this
          have hgd : ∀ (p q : Operand) (op : BinOp) (u : World), (eqGuard op 52 p q (Inode.inoV x) (Inode.inoV x)).run Try.prog u = .ok () u := fun p q op u => Inode.guard_at24 u p q _ _ op
          have hlti : (a : Int) < (in_ : Int) := by omega
          have ha0 : (0 : Int) ≤ (a : Int) := by omega
          have haw : IntKind.i64.wrap ((a : Int) + 1) = ((a + 1 : Nat) : Int) := by rw [IntKind.wrap_i64]; omega
          unfold Inode.inoV at hne hgd
          clear hx hox
          generalize Inode.cellsI x = cx at *
          have HG7 := Lib.hid (show Bk wr.drew w.heap.size 29 _ from HG.out)
          have HM7 := Lib.hid (show Bk wr.drew (w.heap.size + 1) 29 _ from HM.out)
          have HB7 := Lib.hid HB.out.drew
          go_wp2_with fail
          have hH0 : wr.drew.cell? ⟨w.heap.size, 3, none⟩ = some (.slice (some ⟨b1, o1, none⟩) in_ ic) ∧ wr.drew.cell? ⟨w.heap.size + 1, 3, none⟩ = some (.slice (some ⟨b2, o2, none⟩) in_ id) ∧ wr.drew.rangeAt b1 (o1 + a * 14) cx ∧ wr.drew.rangeAt b2 (o2 + a * 14) cx := ⟨g3, m3, hax, hay⟩
          refine wp_region_held_drew (S := fun u => u.cell? ⟨w.heap.size, 3, none⟩ = some (.slice (some ⟨b1, o1, none⟩) in_ ic) ∧ u.cell? ⟨w.heap.size + 1, 3, none⟩ = some (.slice (some ⟨b2, o2, none⟩) in_ id) ∧ u.rangeAt b1 (o1 + a * 14) cx ∧ u.rangeAt b2 (o2 + a * 14) cx) (by kernel_rfl) hH0 (fun hHeld => ?_)
          refine wpAnyH_take (i := 0) (oi := _) (v := ?_) (by simp only [List.getElem?_toArray, List.getElem?_cons_zero]; rfl) (by kernel_rfl) (by kernel_rfl) (by kernel_rfl) (by exact fun _ _ _ h => h) (Or.inl ⟨by rfl, ?hya0⟩) (by exact hHeld) ?rea0
          case hya0 => (intro u hu; obtain ⟨q3, p3, -, -⟩ := hu; go_simp <;> with_reducible rfl)
          try simp only [Act.put, List.setIfInBounds_toArray, List.set_cons_zero, List.set_cons_succ]
          refine wpAnyH_take (i := 1) (oi := _) (v := ?_) (by simp only [List.getElem?_toArray, List.getElem?_cons_succ, List.getElem?_cons_zero]; rfl) (by kernel_rfl) (by kernel_rfl) (by kernel_rfl) (by exact fun _ _ _ h => h) (Or.inl ⟨by rfl, ?hya1⟩) (by exact hHeld) ?rea1
          case hya1 => (intro u hu; obtain ⟨q3, p3, -, -⟩ := hu; go_simp <;> with_reducible rfl)
          try simp only [Act.put, List.setIfInBounds_toArray, List.set_cons_zero, List.set_cons_succ]
          refine wpAnyH_take (i := 2) (oi := _) (v := ?_) (by simp only [List.getElem?_toArray, List.getElem?_cons_succ, List.getElem?_cons_zero]; rfl) (by kernel_rfl) (by kernel_rfl) (by kernel_rfl) (by exact fun _ _ _ h => h) (Or.inl ⟨by rfl, ?hya2⟩) (by exact hHeld) ?rea2
          case hya2 => (intro u hu; obtain ⟨q3, p3, -, -⟩ := hu; go_simp <;> with_reducible rfl)
          try simp only [Act.put, List.setIfInBounds_toArray, List.set_cons_zero, List.set_cons_succ]
          refine wpAnyH_take (i := 3) (oi := _) (v := ?_) (by simp only [List.getElem?_toArray, List.getElem?_cons_succ, List.getElem?_cons_zero]; rfl) (by kernel_rfl) (by kernel_rfl) (by kernel_rfl) (by exact fun _ _ _ h => h) (Or.inl ⟨by rfl, ?hya3⟩) (by exact hHeld) ?rea3
          case hya3 => (intro u hu; obtain ⟨q3, p3, -, -⟩ := hu; go_simp <;> with_reducible rfl)
          try simp only [Act.put, List.setIfInBounds_toArray, List.set_cons_zero, List.set_cons_succ]
          refine wpAnyH_take (i := 4) (oi := _) (v := _) (by simp only [List.getElem?_toArray, List.getElem?_cons_succ, List.getElem?_cons_zero]; rfl) (by kernel_rfl) (by kernel_rfl) (by kernel_rfl) (by exact fun _ _ _ h => h) (yieldsIf_load_mid (by rfl) 52 _ rfl b1 (o1 + a * 14) rfl cx _ (fun w' h => h.2.2.1) Try.underlying52 rfl hsz) (by exact hHeld) ?_
          try simp only [Act.put, List.setIfInBounds_toArray, List.set_cons_zero, List.set_cons_succ]
          refine wpAnyH_take (i := 5) (oi := _) (v := ?_) (by simp only [List.getElem?_toArray, List.getElem?_cons_succ, List.getElem?_cons_zero]; rfl) (by kernel_rfl) (by kernel_rfl) (by kernel_rfl) (by exact fun _ _ _ h => h) (Or.inl ⟨by rfl, ?hyb5⟩) (by exact hHeld) ?reb5
          case hyb5 => (intro u hu; obtain ⟨q3, p3, -, -⟩ := hu; go_simp <;> with_reducible rfl)
          try simp only [Act.put, List.setIfInBounds_toArray, List.set_cons_zero, List.set_cons_succ]
          refine wpAnyH_take (i := 6) (oi := _) (v := ?_) (by simp only [List.getElem?_toArray, List.getElem?_cons_succ, List.getElem?_cons_zero]; rfl) (by kernel_rfl) (by kernel_rfl) (by kernel_rfl) (by exact fun _ _ _ h => h) (Or.inl ⟨by rfl, ?hyb6⟩) (by exact hHeld) ?reb6
          case hyb6 => (intro u hu; obtain ⟨q3, p3, -, -⟩ := hu; go_simp <;> with_reducible rfl)
          try simp only [Act.put, List.setIfInBounds_toArray, List.set_cons_zero, List.set_cons_succ]
          refine wpAnyH_take (i := 7) (oi := _) (v := ?_) (by simp only [List.getElem?_toArray, List.getElem?_cons_succ, List.getElem?_cons_zero]; rfl) (by kernel_rfl) (by kernel_rfl) (by kernel_rfl) (by exact fun _ _ _ h => h) (Or.inl ⟨by rfl, ?hyb7⟩) (by exact hHeld) ?reb7
          case hyb7 => (intro u hu; obtain ⟨q3, p3, -, -⟩ := hu; go_simp <;> with_reducible rfl)
          try simp only [Act.put, List.setIfInBounds_toArray, List.set_cons_zero, List.set_cons_succ]
          refine wpAnyH_take (i := 8) (oi := _) (v := ?_) (by simp only [List.getElem?_toArray, List.getElem?_cons_succ, List.getElem?_cons_zero]; rfl) (by kernel_rfl) (by kernel_rfl) (by kernel_rfl) (by exact fun _ _ _ h => h) (Or.inl ⟨by rfl, ?hyb8⟩) (by exact hHeld) ?reb8
          case hyb8 => (intro u hu; obtain ⟨q3, p3, -, -⟩ := hu; go_simp <;> with_reducible rfl)
          try simp only [Act.put, List.setIfInBounds_toArray, List.set_cons_zero, List.set_cons_succ]
          refine wpAnyH_take (i := 9) (oi := _) (v := _) (by simp only [List.getElem?_toArray, List.getElem?_cons_succ, List.getElem?_cons_zero]; rfl) (by kernel_rfl) (by kernel_rfl) (by kernel_rfl) (by exact fun _ _ _ h => h) (yieldsIf_load_mid (by rfl) 52 _ rfl b2 (o2 + a * 14) rfl cx _ (fun w' h => h.2.2.2) Try.underlying52 rfl hsz) (by exact hHeld) ?_
          try simp only [Act.put, List.setIfInBounds_toArray, List.set_cons_zero, List.set_cons_succ]
          refine wpAnyH_take (i := 10) (oi := _) (v := .bool false) (by simp only [List.getElem?_toArray, List.getElem?_cons_succ, List.getElem?_cons_zero]; rfl) (by kernel_rfl) (by kernel_rfl) (by kernel_rfl) (by exact fun _ _ _ h => h) (Or.inl ⟨by rfl, ?hyc10⟩) (by exact hHeld) ?rec10
          case hyc10 => (intro u hu; obtain ⟨q3, p3, -, -⟩ := hu; go_simp)
          try simp only [Act.put, List.setIfInBounds_toArray, List.set_cons_zero, List.set_cons_succ]
          refine wpAnyH_done (by kernel_rfl) ?_ _
          go_wp2
          go_roundw
          case rel => exact ⟨a + 1, by first | rfl | (congr 1), hlt, HG7, HM7, HB7⟩
          case measure => simp [intOf]; omega
        · obtain rfl : in_ = a := by omega
          go_wp2
          go_ret
          exact ⟨rfl, HB.out⟩
theorem rsame_any (m : Met) (ho : Okm m) (x y : Mem) (w : World) (hl : Lies w w.heap.size x m) (hk : Lies w w.heap.size y m) (hs : m.rows.length ≤ 1000000 ∧ m.own.length ≤ 1000000 ∧ m.used.length ≤ 1000000 ∧ m.ino.length ≤ 1000000) :
    Calls Try.prog 15 #[x.v m, y.v m] w fun e w' => e = .returned (.bool true) ∧ Below w.heap.size w w' :=
  rsame_in m ho x.rA x.oA x.uA x.iA y.rA y.oA y.uA y.iA _ x.rc _ x.oc _ x.uc _ x.ic y.rc y.oc y.uc y.ic w rfl rfl rfl rfl hl hk hs
end Go.Proofs.Ytaflpigpeckhoaa.Meta
