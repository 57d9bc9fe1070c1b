/-
  What is known, taken of sectors, as the document takes it.
-/
import Derived.Test.YtaflpigpeckhoaaQMetaA
import Derived.Test.YtaflpigpeckhoaaQMetaU
import Derived.Test.YtaflpigpeckhoaaQMetaL
import Derived.Test.YtaflpigpeckhoaaQMetaN2
import Derived.Test.YtaflpigpeckhoaaQMetaQ
import Derived.Test.YtaflpigpeckhoaaQInodeX10
import Derived.Test.YtaflpigpeckhoaaQSuper
namespace Go.Proofs.Ytaflpigpeckhoaa.Meta
open Go.Proofs.Ytaflpigpeckhoaa
open Go.RowKit

def nil4 : List Value := [.slice none 0 0, .slice none 0 0, .slice none 0 0, .slice none 0 0]
theorem four_frozen {w : World} {g : Nat} {e : TypeId} {a0 a1 a2 a3 : Value} (h : Bk w g e [a0, a1, a2, a3]) : w.frozen? ⟨g, 0, none⟩ = false ∧ w.frozen? ⟨g, 1, none⟩ = false ∧ w.frozen? ⟨g, 2, none⟩ = false ∧ w.frozen? ⟨g, 3, none⟩ = false :=
  ⟨h.frozen 0, h.frozen 1, h.frozen 2, h.frozen 3⟩
/-- The four cells of the answer, written. -/
def put4 (V : World) (b : Nat) (a0 a1 a2 a3 : Value) : World := (((V.setCell ⟨b, 0, none⟩ a0).setCell ⟨b, 1, none⟩ a1).setCell ⟨b, 2, none⟩ a2).setCell ⟨b, 3, none⟩ a3
theorem put4_bk {V : World} {b : Nat} {e : TypeId} {c0 c1 c2 c3 a0 a1 a2 a3 : Value} (h : Bk V b e [c0, c1, c2, c3]) : Bk (put4 V b a0 a1 a2 a3) b e [a0, a1, a2, a3] :=
  (((h.set 0 a0).set 1 a1).set 2 a2).set 3 a3
theorem put4_below {w V : World} {B b : Nat} (h : Below B w V) (hb : B ≤ b) (a0 a1 a2 a3 : Value) : Below B w (put4 V b a0 a1 a2 a3) :=
  (((h.setCell hb a0).setCell hb a1).setCell hb a2).setCell hb a3
theorem take_end {w V : World} {tm : Array Value} {c0 c1 c2 c3 : Value} {m : Met} {x : Mem} {k : Nat} {r : Met × Nat} (hr : r = (m, k)) (hM : Bk V (w.heap.size + 1) 29 [c0, c1, c2, c3]) (h4 : tm[4]?.getD undef = .pointer (some ⟨w.heap.size + 1, 0, none⟩)) (h5 : tm[5]?.getD undef = .int .i64 (k : Int))
    (ho : OwnM (put4 V (w.heap.size + 1) (.slice x.rA m.rows.length x.rc) (.slice x.oA m.own.length x.oc) (.slice x.uA m.used.length x.uc) (.slice x.iA m.ino.length x.ic)) w.heap.size x m) (hb : Below w.heap.size w V) :
    bodyPost Try.prog Try.f21 (fun e w' => HandsM w r e w') .ret { tmps := tm, defers := [] } (put4 V (w.heap.size + 1) (.slice x.rA m.rows.length x.rc) (.slice x.oA m.own.length x.oc) (.slice x.uA m.used.length x.uc) (.slice x.iA m.ino.length x.ic)) := by
  subst hr
  obtain ⟨d0, d1, d2, d3⟩ := four_cells (put4_bk (a0 := .slice x.rA m.rows.length x.rc) (a1 := .slice x.oA m.own.length x.oc) (a2 := .slice x.uA m.used.length x.uc) (a3 := .slice x.iA m.ino.length x.ic) hM)
  refine bodyPost_ret (v := .tuple #[x.v m, .int .i64 (k : Int)]) ?_ rfl ⟨x, rfl, ho, put4_below hb (by omega) _ _ _ _⟩
  generalize put4 V (w.heap.size + 1) (.slice x.rA m.rows.length x.rc) (.slice x.oA m.own.length x.oc) (.slice x.uA m.used.length x.uc) (.slice x.iA m.ino.length x.ic) = U at *
  simp [results, Try.results21, go_sem, Mem.v, *]
theorem ownM_set {u : World} {b g : Nat} {cs : List Value} {x : Mem} {m : Met} (hB : Bk u g 29 cs) (ho : OwnM u b x m) (j : Nat) (v : Value) : OwnM (u.setCell ⟨g, j, none⟩ v) b x m := by
  have hg : u.grownBy (u.setCell ⟨g, j, none⟩ v) (some g) := only_set (World.grownBy.refl _ _) j v
  exact ⟨ho.rows.kept hg (.inr (Ne.symm (bk_ne hB ho.rows (by decide)))), ho.own.kept hg (.inr (Ne.symm (bk_ne hB ho.own (by decide)))),
    ho.used.kept hg (.inr (Ne.symm (bk_ne hB ho.used (by decide)))), ho.ino.kept hg (.inr (Ne.symm (bk_ne hB ho.ino (by decide))))⟩
theorem good_end {w V : World} {tm : Array Value} {c0 c1 c2 c3 : Value} {m : Met} {x : Mem} {r : Met × Nat} {rn on_ un in_ : Nat} (hr : r = (m, 0)) (hrn : m.rows.length = rn) (hon : m.own.length = on_) (hun : m.used.length = un) (hin : m.ino.length = in_)
    (hM : Bk V (w.heap.size + 1) 29 [c0, c1, c2, c3]) (h4 : tm[4]?.getD undef = .pointer (some ⟨w.heap.size + 1, 0, none⟩)) (h5 : tm[5]?.getD undef = .int .i64 0) (ho : OwnM V w.heap.size x m) (hb : Below w.heap.size w V) :
    bodyPost Try.prog Try.f21 (fun e w' => HandsM w r e w') .ret { tmps := tm, defers := [] } (put4 V (w.heap.size + 1) (.slice x.rA rn x.rc) (.slice x.oA on_ x.oc) (.slice x.uA un x.uc) (.slice x.iA in_ x.ic)) := by
  subst hrn hon hun hin
  exact take_end (k := 0) hr hM h4 h5 (ownM_set (((hM.set 0 _).set 1 _).set 2 _) (ownM_set ((hM.set 0 _).set 1 _) (ownM_set (hM.set 0 _) (ownM_set hM ho 0 _) 1 _) 2 _) 3 _) hb
theorem bad_end {w V : World} {tm : Array Value} {c0 c1 c2 c3 : Value} {r : Met × Nat} (hr : r = (.z, 140)) (hM : Bk V (w.heap.size + 1) 29 [c0, c1, c2, c3]) (h4 : tm[4]?.getD undef = .pointer (some ⟨w.heap.size + 1, 0, none⟩)) (h5 : tm[5]?.getD undef = .int .i64 140) (hb : Below w.heap.size w V) :
    bodyPost Try.prog Try.f21 (fun e w' => HandsM w r e w') .ret { tmps := tm, defers := [] } (put4 V (w.heap.size + 1) (.slice none 0 0) (.slice none 0 0) (.slice none 0 0) (.slice none 0 0)) :=
  take_end (x := memZ) (m := .z) hr hM h4 h5 (ownM_z _ _) hb
set_option maxRecDepth 100000 in
set_option maxHeartbeats 3200000 in
theorem rtake_no (j i g p : Int) (hv : ¬ Super.Valid j i g p) (l : List (List UInt8)) (A : Option Addr) (n c : Nat) (L : List Sc) (w : World) (hl : l.length = n) (hs : SecsAt w w.heap.size A L l) :
    Calls Try.prog 21 #[.agg #[.int .i64 j, .int .i64 i, .int .i64 g, .int .i64 p], .slice A n c] w fun e w' => HandsM w (takM ⟨j, i, g, p⟩ l) e w' := by
  have HS := Lib.hid hs
  have HL := Lib.hid hl
  obtain ⟨W, hW⟩ : ∃ W, W = (w.alloc (.cells #[.int .i64 j, .int .i64 i, .int .i64 g, .int .i64 p] 23)).alloc (.cells #[.slice none 0 0, .slice none 0 0, .slice none 0 0, .slice none 0 0] 29) := ⟨_, rfl⟩
  have hbW : Below w.heap.size w W := by rw [hW]; exact (Below.refl _ _).alloc (Nat.le_refl _) _ |>.alloc (by simp) _
  have hG : Bk W w.heap.size 23 [.int .i64 j, .int .i64 i, .int .i64 g, .int .i64 p] := by rw [hW]; exact (Bk.new w 23 [.int .i64 j, .int .i64 i, .int .i64 g, .int .i64 p]).below ((Below.refl _ _).alloc (Nat.le_refl _) _) (by simp)
  have hM : Bk W (w.heap.size + 1) 29 [.slice none 0 0, .slice none 0 0, .slice none 0 0, .slice none 0 0] := by
    rw [hW]
    have := Bk.new (w.alloc (.cells #[.int .i64 j, .int .i64 i, .int .i64 g, .int .i64 p] 23)) 29 [.slice none 0 0, .slice none 0 0, .slice none 0 0, .slice none 0 0]
    simpa using this
  have HG := Lib.hid hG
  have HM := Lib.hid hM
  have HB := Lib.hid hbW
  have HW := Lib.hid hW
  obtain ⟨g0, g1, g2, g3⟩ := four_cells hG
  clear hbW hG hM hW
  have HV : Hid (∀ u : World, Calls Try.prog 24 #[.agg #[.int .i64 j, .int .i64 i, .int .i64 g, .int .i64 p]] u fun e w' => e = .returned (.bool false) ∧ Super.Boxed u j i g p w') := Lib.hid (fun u => Super.rright_no hv u)
  rw [tak_geo (G := ⟨j, i, g, p⟩) hv]
  clear hv hs hl
  go_enter Try.func21, Try.ntmps21
  go_upto_region 1 with fail
  rw [← HW.out]
  go_wp2_with (go_at_call 24; (with_reducible refine (HV.out _).mono ?_); rintro e w1 ⟨he, n, hw⟩; obtain rfl := he; subst hw; have HM2 := Lib.hid (bk_alloc HM.out (.cells #[.int .i64 j, .int .i64 i, .int .i64 g, .int .i64 p] 23)); obtain ⟨m0, m1, m2, m3⟩ := four_cells HM2.out; obtain ⟨f0, f1, f2, f3⟩ := four_frozen HM2.out; have hlt := HM.out.lt)
  exact bad_end (V := (W.alloc _).drewN _) rfl HM2.out rfl rfl (below_drewN (HB.out.alloc HB.out.size _) _)
set_option maxRecDepth 100000 in
set_option maxHeartbeats 3200000 in
theorem rtake_in (j p : Int) (inn gn : Nat) (hv : Super.Valid j (inn : Int) (gn : Int) p) (l : List (List UInt8)) (A : Option Addr) (n c : Nat) (L : List Sc) (w : World) (hl : l.length = n) (hs : SecsAt w w.heap.size A L l) (hn : n ≤ 1000000) :
    Calls Try.prog 21 #[.agg #[.int .i64 j, .int .i64 (inn : Int), .int .i64 (gn : Int), .int .i64 p], .slice A n c] w fun e w' => HandsM w (takM ⟨j, (inn : Int), (gn : Int), p⟩ l) e w' := by
  have HS := Lib.hid hs
  have HL := Lib.hid hl
  obtain ⟨W, hW⟩ : ∃ W, W = (w.alloc (.cells #[.int .i64 j, .int .i64 (inn : Int), .int .i64 (gn : Int), .int .i64 p] 23)).alloc (.cells #[.slice none 0 0, .slice none 0 0, .slice none 0 0, .slice none 0 0] 29) := ⟨_, rfl⟩
  have hbW : Below w.heap.size w W := by rw [hW]; exact (Below.refl _ _).alloc (Nat.le_refl _) _ |>.alloc (by simp) _
  have hG : Bk W w.heap.size 23 [.int .i64 j, .int .i64 (inn : Int), .int .i64 (gn : Int), .int .i64 p] := by rw [hW]; exact (Bk.new w 23 [.int .i64 j, .int .i64 (inn : Int), .int .i64 (gn : Int), .int .i64 p]).below ((Below.refl _ _).alloc (Nat.le_refl _) _) (by simp)
  have hM : Bk W (w.heap.size + 1) 29 [.slice none 0 0, .slice none 0 0, .slice none 0 0, .slice none 0 0] := by
    rw [hW]
    have := Bk.new (w.alloc (.cells #[.int .i64 j, .int .i64 (inn : Int), .int .i64 (gn : Int), .int .i64 p] 23)) 29 [.slice none 0 0, .slice none 0 0, .slice none 0 0, .slice none 0 0]
    simpa using this
  have HG := Lib.hid hG
  have HM := Lib.hid hM
  have HB := Lib.hid hbW
  have HW := Lib.hid hW
  obtain ⟨g0, g1, g2, g3⟩ := four_cells hG
  clear hbW hG hM hW
  have HV : Hid (∀ u : World, Calls Try.prog 24 #[.agg #[.int .i64 j, .int .i64 (inn : Int), .int .i64 (gn : Int), .int .i64 p]] u fun e w' => e = .returned (.bool true) ∧ Super.Boxed u j (inn : Int) (gn : Int) p w') := Lib.hid (fun u => Super.rright_yes hv u)
  have HMT : Hid (∀ u : World, Calls Try.prog 46 #[.agg #[.int .i64 j, .int .i64 (inn : Int), .int .i64 (gn : Int), .int .i64 p]] u fun e w' => e = .returned (.int .i64 (3 + (inn : Int) / 2)) ∧ Below u.heap.size u w') := Lib.hid (fun u => Super.rmeta_yes hv u)
  have HV' := Lib.hid hv
  by_cases hlen : (n : Int) = 3 + (inn : Int) / 2
  rotate_left
  · rw [tak_len (G := ⟨j, (inn : Int), (gn : Int), p⟩) (l := l) (by rw [hl]; exact hlen)]
    have hne : ((n : Int) != 3 + (inn : Int) / 2) = true := by simpa using hlen
    clear hv hs hl hlen
    go_enter Try.func21, Try.ntmps21
    go_upto_region 1 with fail
    rw [← HW.out]
    go_wp2_with (first
      | (go_at_call 24; (with_reducible refine (HV.out _).mono ?_); rintro e w1 ⟨he, q, hw⟩; obtain rfl := he; subst hw; have HG2 := Lib.hid (bk_alloc HG.out (.cells #[.int .i64 j, .int .i64 (inn : Int), .int .i64 (gn : Int), .int .i64 p] 23)); have HM2 := Lib.hid (bk_alloc HM.out (.cells #[.int .i64 j, .int .i64 (inn : Int), .int .i64 (gn : Int), .int .i64 p] 23)); have HB2 := Lib.hid (below_drewN (HB.out.alloc HB.out.size (.cells #[.int .i64 j, .int .i64 (inn : Int), .int .i64 (gn : Int), .int .i64 p] 23)) q); replace HG2 : Hid (Bk ((W.alloc (.cells #[.int .i64 j, .int .i64 (inn : Int), .int .i64 (gn : Int), .int .i64 p] 23)).drewN q) w.heap.size 23 [.int .i64 j, .int .i64 (inn : Int), .int .i64 (gn : Int), .int .i64 p]) := HG2; replace HM2 : Hid (Bk ((W.alloc (.cells #[.int .i64 j, .int .i64 (inn : Int), .int .i64 (gn : Int), .int .i64 p] 23)).drewN q) (w.heap.size + 1) 29 [.slice none 0 0, .slice none 0 0, .slice none 0 0, .slice none 0 0]) := HM2; generalize (W.alloc (.cells #[.int .i64 j, .int .i64 (inn : Int), .int .i64 (gn : Int), .int .i64 p] 23)).drewN q = W1 at *; clear g0 g1 g2 g3; obtain ⟨g0, g1, g2, g3⟩ := four_cells HG2.out)
      | (go_at_call 46; (with_reducible refine (HMT.out _).mono ?_); rintro e w2 ⟨he, hb⟩; obtain rfl := he; have HM3 := Lib.hid (HM2.out.below hb HM2.out.lt); have HB3 := Lib.hid (HB2.out.trans (hb.mono HB2.out.size)); clear hb; obtain ⟨m0, m1, m2, m3⟩ := four_cells HM3.out; obtain ⟨f0, f1, f2, f3⟩ := four_frozen HM3.out; have hlt := HM3.out.lt))
    exact bad_end rfl HM3.out rfl rfl HB3.out
  obtain ⟨R, hR⟩ : ∃ R, takM ⟨j, (inn : Int), (gn : Int), p⟩ l = R := ⟨_, rfl⟩
  rw [hR]
  have HR := Lib.hid hR
  clear hR
  go_enter Try.func21, Try.ntmps21
  go_upto_region 1 with fail
  rw [← HW.out]
  have hne : ((n : Int) != 3 + (inn : Int) / 2) = false := by simp [hlen]
  go_wp2_with (first
    | (go_at_call 24; (with_reducible refine (HV.out _).mono ?_); rintro e w1 ⟨he, q, hw⟩; obtain rfl := he; subst hw; have HG2 := Lib.hid (bk_alloc HG.out (.cells #[.int .i64 j, .int .i64 (inn : Int), .int .i64 (gn : Int), .int .i64 p] 23)); have HM2 := Lib.hid (bk_alloc HM.out (.cells #[.int .i64 j, .int .i64 (inn : Int), .int .i64 (gn : Int), .int .i64 p] 23)); have HB2 := Lib.hid (below_drewN (HB.out.alloc HB.out.size (.cells #[.int .i64 j, .int .i64 (inn : Int), .int .i64 (gn : Int), .int .i64 p] 23)) q); replace HG2 : Hid (Bk ((W.alloc (.cells #[.int .i64 j, .int .i64 (inn : Int), .int .i64 (gn : Int), .int .i64 p] 23)).drewN q) w.heap.size 23 [.int .i64 j, .int .i64 (inn : Int), .int .i64 (gn : Int), .int .i64 p]) := HG2; replace HM2 : Hid (Bk ((W.alloc (.cells #[.int .i64 j, .int .i64 (inn : Int), .int .i64 (gn : Int), .int .i64 p] 23)).drewN q) (w.heap.size + 1) 29 [.slice none 0 0, .slice none 0 0, .slice none 0 0, .slice none 0 0]) := HM2; generalize (W.alloc (.cells #[.int .i64 j, .int .i64 (inn : Int), .int .i64 (gn : Int), .int .i64 p] 23)).drewN q = W1 at *; clear g0 g1 g2 g3; obtain ⟨g0, g1, g2, g3⟩ := four_cells HG2.out)
    | (go_at_call 46; (with_reducible refine (HMT.out _).mono ?_); rintro e w2 ⟨he, hb⟩; obtain rfl := he; have HG3 := Lib.hid (HG2.out.below hb HG2.out.lt); have HM3 := Lib.hid (HM2.out.below hb HM2.out.lt); have HB3 := Lib.hid (HB2.out.trans (hb.mono HB2.out.size)); clear hb g0 g1 g2 g3))
  have hL0 : 0 < l.length := by rw [hl]; have := hv.i1; omega
  obtain ⟨b, o, hA, hbb⟩ := hs.first hL0
  subst hA
  have HBB := Lib.hid hbb
  have hsz0 : w.heap.size + 1 < w2.heap.size := HM3.out.lt
  have HSZ := Lib.hid hsz0
  have hi2 := hv.i2
  have hi1 := hv.i1
  have hg2 := hv.g2
  have HNEW : Hid (∀ u : World, Calls Try.prog 12 #[.agg #[.int .i64 j, .int .i64 (inn : Int), .int .i64 (gn : Int), .int .i64 p]] u fun e w' => HandsM u (⟨List.replicate 16 .z, List.replicate gn 0, List.replicate 64 0, List.replicate inn .z⟩, 0) e w') := Lib.hid (fun u => rnew_in j p gn inn hv u)
  have HN4 : Hid (4 ≤ n) := Lib.hid (by omega)
  have HNN : Hid ((n : Int) = 3 + (inn : Int) / 2) := Lib.hid hlen
  have HI : Hid (inn ≤ 64 ∧ gn ≤ 64) := Lib.hid (by omega)
  clear hL0 hbb hs hv hlen hne hsz0 hi1 hi2 hg2
  go_loopw [6] (fun k wr => ∃ a : Nat, k = .int .i64 (a : Int) ∧ a ≤ n ∧ (∀ (q : Nat) (s : List UInt8), l[q]? = some s → q < a → s.length = 64) ∧ Hid (Below w2.heap.size w2 wr)) (fun k _ => n - (intOf k).toNat)
  case atStart => exact ⟨0, rfl, Nat.zero_le _, fun q s _ hq => absurd hq (by omega), Lib.hid (Below.refl _ _)⟩
  case round =>
    obtain ⟨a, rfl, ha, h64, HBr⟩ := hrel
    have H64 := Lib.hid h64
    clear h64
    have HMr := Lib.hid (HM3.out.below HBr.out HM3.out.lt)
    have HBw := Lib.hid (HB3.out.trans (HBr.out.mono HB3.out.size))
    by_cases hlt : a < n
    · obtain ⟨s, hs⟩ : ∃ s, l[a]? = some s := ⟨_, List.getElem?_eq_getElem (by rw [HL.out]; exact hlt)⟩
      obtain ⟨S, hS, hc, hr, hcap⟩ := (HS.out.below HBw.out).get hs
      have hlti : (a : Int) < (n : Int) := by omega
      by_cases h64 : s.length = 64
      · have hn64 : (((s.length : Nat) : Int) != 64) = false := by simp [h64]
        have HST : Hid (∀ (q : Nat) (s : List UInt8), l[q]? = some s → q < a + 1 → s.length = 64) := Lib.hid (fun q t ht hq => by
          by_cases h : q < a
          · exact H64.out q t ht h
          · obtain rfl : q = a := by omega
            rw [hs] at ht
            injection ht with ht
            rw [← ht]; exact h64)
        clear hs hS hr hcap h64
        go_wp2
        go_roundw
        case rel => exact ⟨a + 1, by go_num, hlt, HST.out, HBr⟩
        case measure => simp [intOf]; omega
      · have hn64 : (((s.length : Nat) : Int) != 64) = true := by simp; omega
        have HBAD := Lib.hid (HR.out.symm.trans (tak_64 (G := ⟨j, (inn : Int), (gn : Int), p⟩) hs h64))
        obtain ⟨m0, m1, m2, m3⟩ := four_cells HMr.out
        obtain ⟨f0, f1, f2, f3⟩ := four_frozen HMr.out
        have hltr := HMr.out.lt
        clear hs hS hr hcap h64
        go_wp2
        exact bad_end HBAD.out HMr.out rfl rfl HBw.out
    · obtain rfl : n = a := by omega
      have hn4 := HN4.out
      obtain ⟨s0, hs0⟩ : ∃ s, l[0]? = some s := ⟨_, List.getElem?_eq_getElem (by rw [HL.out]; omega)⟩
      obtain ⟨s1, hs1⟩ : ∃ s, l[1]? = some s := ⟨_, List.getElem?_eq_getElem (by rw [HL.out]; omega)⟩
      obtain ⟨s2, hs2⟩ : ∃ s, l[2]? = some s := ⟨_, List.getElem?_eq_getElem (by rw [HL.out]; omega)⟩
      have h0 := H64.out 0 s0 hs0 (by omega)
      have h1 := H64.out 1 s1 hs1 (by omega)
      have h2 := H64.out 2 s2 hs2 (by omega)
      have HGr := Lib.hid (HG3.out.below HBr.out HG3.out.lt)
      obtain ⟨g0, g1, g2, g3⟩ := four_cells HGr.out
      have HS0 := Lib.hid hs0
      have HS1 := Lib.hid hs1
      have HS2 := Lib.hid hs2
      have HL0 := Lib.hid h0
      have HL1 := Lib.hid h1
      have HL2 := Lib.hid h2
      clear hs0 hs1 hs2 h0 h1 h2 hn4
      go_upto_region 9 with (go_at_call 12; (with_reducible refine (HNEW.out _).mono ?_); rintro e w3 ⟨⟨rA, rc, oA, oc, uA, uc, iA, ic⟩, he, ho, hb⟩; (simp only [Mem.v, List.length_replicate] at he); obtain rfl := he; have HO3 := Lib.hid (ho.base HBw.out.size); have HGr3 := Lib.hid (HGr.out.below hb HGr.out.lt); have HMr3 := Lib.hid (HMr.out.below hb HMr.out.lt); have HBw3 := Lib.hid (HBw.out.trans (hb.mono HBw.out.size)); clear ho hb g0 g1 g2 g3)
      have HSTA := Lib.hid (Sta.made (x := ⟨rA, rc, oA, oc, uA, uc, iA, ic⟩) HGr3.out HMr3.out HO3.out HBw3.out)
      simp only [List.length_replicate] at HSTA
      clear HO3 HGr3 HMr3 HBw3 HGr HMr HBw HBr
      generalize hM : w3.heap.size = M at *
      generalize (w3.alloc (.cells #[.slice rA 16 rc, .slice oA gn oc, .slice uA 64 uc, .slice iA inn ic] 29)) = W4 at *
      clear hM
      have HTK : Hid (∀ (u : World) (A : Option Addr) (c : Nat), Rd u u.heap.size A (bytesV s0) → Calls Try.prog 47 #[.slice A 64 c] u fun e w' => Intern.Hands2 u (Intern.takR s0) e w') := Lib.hid (fun u A c hr => Intern.rtake_any s0 A 64 c u HL0.out hr)
      have hg0 : l.getD 0 [] = s0 := by rw [List.getD_eq_getElem?_getD, HS0.out]; rfl
      obtain ⟨S0, -, hc0, hr0, hcap0⟩ := (HS.out.below HSTA.out.below).get HS0.out
      have HR0 := Lib.hid (hr0.more HSTA.out.below.size)
      rw [HL0.out] at hc0
      rw [Nat.add_zero] at hc0
      have hn0 : (0 : Int) < (n : Int) := by have := HN4.out; omega
      clear hr0 hcap0
      by_cases her : (Intern.takR s0).err = 0
      rotate_left
      · have HBAD := Lib.hid (HR.out.symm.trans (tak_rows (G := ⟨j, (inn : Int), (gn : Int), p⟩) (l := l) (by rw [hg0]; exact her)))
        have hne : (((Intern.takR s0).err : Int) != 0) = true := by simp; omega
        clear her hg0
        generalize Intern.takR s0 = tr at *
        go_wp2_with (go_at_call 47; (with_reducible refine (HTK.out _ _ _ HR0.out).mono ?_); rintro e w5 ⟨v, he, hown, hb⟩; obtain rfl := he; have HS5 := Lib.hid (HSTA.out.later hb); obtain ⟨m0, m1, m2, m3⟩ := four_cells HS5.out.res; obtain ⟨f0, f1, f2, f3⟩ := four_frozen HS5.out.res; have hlt := HS5.out.res.lt; clear hown hb hc0)
        exact bad_end HBAD.out HS5.out.res rfl rfl HS5.out.below
      have hne : (((Intern.takR s0).err : Int) != 0) = false := by rw [her]; rfl
      have HTS := Lib.hid (Intern.takR_some her)
      have HTL : Hid ((Intern.takR s0).rows.length = 16) := Lib.hid HTS.out.2.1.len
      have HG0 := Lib.hid hg0
      have HER0 := Lib.hid her
      clear hg0 her
      generalize hTR : Intern.takR s0 = tr at *
      have HTR := Lib.hid hTR
      clear hTR
      go_upto_region 13 with (go_at_call 47; (with_reducible refine (HTK.out _ _ _ HR0.out).mono ?_); rintro e w5 ⟨v, he, hown, hb⟩; obtain rfl := he; rw [HTL.out] at hown; obtain ⟨A5, c5, hv5⟩ := own_slice_any hown; subst hv5; have HO5 := Lib.hid (own_mono hown HSTA.out.below.size); have HS5 := Lib.hid (HSTA.out.later hb); obtain ⟨m0, m1, m2, m3⟩ := four_cells HS5.out.cur; simp only [List.length_replicate] at m0 m1 m2 m3; have hf0 := HS5.out.cur.frozen 0; have hlt := HS5.out.cur.lt; clear hown hb hc0)
      have HS6 : Hid (Sta w M [.int .i64 j, .int .i64 (inn : Int), .int .i64 (gn : Int), .int .i64 p] ⟨A5, c5, oA, oc, uA, uc, iA, ic⟩ ⟨tr.rows, ownP s1 gn 0, List.replicate 64 0, List.replicate inn .z⟩ (w5.setCell ⟨M, 0, none⟩ (.slice A5 16 c5))) := Lib.hid (HS5.out.slot 0 _ (by simp [HTL.out, ownP_zero]) ⟨by rw [HTL.out]; exact HO5.out, by rw [ownP_zero]; exact HS5.out.own.own, HS5.out.own.used, HS5.out.own.ino⟩)
      clear m0 m1 m2 m3 hf0 hlt HSTA HS5 HO5 HTK HR0
      generalize (w5.setCell ⟨M, 0, none⟩ (.slice A5 16 c5)) = W6 at *
      have hgn1 : 0 < gn := by have := HV'.out.g1; omega
      have hoA := HS6.out.own.own
      rw [show (⟨tr.rows, ownP s1 gn 0, List.replicate 64 0, List.replicate inn .z⟩ : Met).own.length = gn from length_ownP (Nat.zero_le _) (Nat.zero_le _)] at hoA
      obtain ⟨go, hoA, hgo1, hgo2⟩ := own_at hoA hgn1
      have hoA : oA = some ⟨go, 0, none⟩ := hoA
      subst hoA
      clear hgo1 hgo2 hgn1
      go_wp2
      go_loopw [11] (fun k wr => ∃ a : Nat, k = .int .i64 (a : Int) ∧ a ≤ gn ∧ Hid (Sta w M [.int .i64 j, .int .i64 (inn : Int), .int .i64 (gn : Int), .int .i64 p] ⟨A5, c5, some ⟨go, 0, none⟩, oc, uA, uc, iA, ic⟩ ⟨tr.rows, ownP s1 gn a, List.replicate 64 0, List.replicate inn .z⟩ wr)) (fun k _ => gn - (intOf k).toNat)
      case atStart => exact ⟨0, rfl, Nat.zero_le _, HS6⟩
      case round =>
        obtain ⟨a, rfl, ha, HSr⟩ := hrel
        obtain ⟨g0, g1, g2, g3⟩ := four_cells HSr.out.geo
        have hgn64 := HI.out.2
        have hl1 := HL1.out
        by_cases hlt : a < gn
        · obtain ⟨y, hy⟩ : ∃ y, s1[a]? = some y := ⟨_, List.getElem?_eq_getElem (by omega)⟩
          obtain ⟨S1, -, hc1, hr1, hcap1⟩ := (HS.out.below HSr.out.below).get HS1.out
          obtain ⟨b1, o1, hA1, hb1⟩ := rd_first hr1 (by rw [length_bytesV]; omega)
          obtain ⟨A1, c1⟩ := S1
          have hA1 : A1 = some ⟨b1, o1, none⟩ := hA1
          subst hA1
          have hcy := rd_u8 hr1 hy
          have hlo := length_ownP (l := s1) (n := gn) (a := a) ha (by omega)
          obtain ⟨m0, m1, m2, m3⟩ := four_cells HSr.out.cur
          simp only [hlo, List.length_replicate, HTL.out] at m0 m1 m2 m3
          have hlti : (a : Int) < (gn : Int) := by omega
          have hlt64 : (a : Int) < 64 := by omega
          have hst := HSr.out.owner rfl a (y.toNat : Int)
          simp only [ownP_step hlt hy] at hst
          have HST := Lib.hid hst
          have hoo := HSr.out.own.own
          obtain ⟨v0, hv0⟩ : ∃ v, wr.cell? ⟨go, a, none⟩ = some v := by
            have := hoo.cellAt a (by rw [hlo]; omega)
            rw [this]
            exact ⟨_, List.getElem?_eq_getElem (by rw [Inode.length_intsV, hlo]; exact hlt)⟩
          have hf0 := hoo.frozenAt a
          have ha0 : (0 : Int) ≤ (a : Int) := by omega
          have hyw : IntKind.i64.wrap (y.toNat : Int) = (y.toNat : Int) := by have := y.toNat_lt; rw [IntKind.wrap_i64]; omega
          have hn1 : (1 : Int) < (n : Int) := by have := HN4.out; omega
          rw [hl1] at hc1
          clear hst hy hr1 hcap1 hoo hlo hb1
          go_wp2
          go_region
          have HST2 := Lib.hid (HST.out.later (Below.refl _ _).drew)
          go_wp2
          go_roundw
          case rel => exact ⟨a + 1, by go_num, hlt, HST2⟩
          case measure => simp [intOf]; omega
        · obtain rfl : gn = a := by omega
          clear hlt ha HS6
          obtain ⟨S2, -, hc2, hr2, hcap2⟩ := (HS.out.below HSr.out.below).get HS2.out
          obtain ⟨A2, c2⟩ := S2
          rw [HL2.out] at hc2
          have hc2 : wr.cell? ⟨b, o + 2, none⟩ = some (.slice A2 64 c2) := hc2
          have HR2 := Lib.hid (hr2.more HSr.out.below.size)
          have hn2 : (2 : Int) < (n : Int) := by have := HN4.out; omega
          have hlo := length_ownP (l := s1) (n := gn) (a := gn) (Nat.le_refl _) (by omega)
          have HLO := Lib.hid hlo
          have hbr : b < wr.heap.size := Nat.lt_of_lt_of_le HBB.out HSr.out.below.size
          clear hr2 hcap2 hlo hl1
          go_upto_region 18 with (at_builtin; go_loud (refine wpList_app5 _ rfl (.tmp 75) (.tmp 78) rfl w.heap.size _ 0 [] rfl (lit_own _ HSr.out.below.size) _ A2 64 c2 s2 rfl HL2.out (HR2.out.below (al_below _ _)) (by omega) (by simp; have := HSr.out.below.size; omega) ?_; intro v10 w10 ho10 hg10; have hb10 := lit_grown hg10; rw [List.nil_append] at ho10; obtain ⟨A10, c10, hv10⟩ := own_slice ho10; subst hv10; have HO10 := Lib.hid ho10; have HS10 := Lib.hid (HSr.out.later hb10); obtain ⟨m0, m1, m2, m3⟩ := four_cells HS10.out.cur; have hf2 := HS10.out.cur.frozen 2; have hlt := HS10.out.cur.lt; clear ho10 hg10 hb10 hc2))
          have HS11 : Hid (Sta w M [.int .i64 j, .int .i64 (inn : Int), .int .i64 (gn : Int), .int .i64 p] ⟨A5, c5, some ⟨go, 0, none⟩, oc, A10, c10, iA, ic⟩ ⟨tr.rows, ownP s1 gn gn, s2, inoP (fun k => (Inode.takI (half l k)).1) inn 0⟩ (w10.setCell ⟨M, 2, none⟩ (.slice A10 64 c10))) := Lib.hid (HS10.out.slot 2 _ (by simp [HL2.out, inoP_zero]) ⟨HS10.out.own.rows, HS10.out.own.own, by rw [HL2.out]; simpa using HO10.out, by rw [inoP_zero]; exact HS10.out.own.ino⟩)
          clear m0 m1 m2 m3 hf2 hlt HSr HR2 HS10 HO10 hbr hn2 g0 g1 g2 g3
          generalize (w10.setCell ⟨M, 2, none⟩ (.slice A10 64 c10)) = W8 at *
          have hin1 : 0 < inn := by have := HV'.out.i1; omega
          have hin64 := HI.out.1
          have hev : inn % 2 = 0 := by have := HV'.out.i3; omega
          have HEV := Lib.hid hev
          have hiA := HS11.out.own.ino
          rw [show (⟨tr.rows, ownP s1 gn gn, s2, inoP (fun k => (Inode.takI (half l k)).1) inn 0⟩ : Met).ino.length = inn from length_inoP (Nat.zero_le _)] at hiA
          obtain ⟨gi, hiA, hgi1, hgi2⟩ := own_at hiA hin1
          have hiA : iA = some ⟨gi, 0, none⟩ := hiA
          subst hiA
          clear hgi1 hgi2 hin1 hev
          have HF : Hid (∀ k, Inode.Oki (Inode.takI (half l k)).1) := Lib.hid (fun k => oki_takI _)
          go_wp2
          go_loopw [12] (fun k wr => ∃ a : Nat, k = .int .i64 (a : Int) ∧ a ≤ inn ∧ Hid (Sta w M [.int .i64 j, .int .i64 (inn : Int), .int .i64 (gn : Int), .int .i64 p] ⟨A5, c5, some ⟨go, 0, none⟩, oc, A10, c10, some ⟨gi, 0, none⟩, ic⟩ ⟨tr.rows, ownP s1 gn gn, s2, inoP (fun k => (Inode.takI (half l k)).1) inn a⟩ wr)) (fun k _ => inn - (intOf k).toNat)
          case atStart => exact ⟨0, rfl, Nat.zero_le _, HS11⟩
          case round =>
            clear HS11
            obtain ⟨a, rfl, ha, HSr⟩ := hrel
            obtain ⟨g0, g1, g2, g3⟩ := four_cells HSr.out.geo
            by_cases hlt : a < inn
            · have hk3 : 3 + a / 2 < n := by have := HNN.out; have := HEV.out; omega
              obtain ⟨s, hs⟩ : ∃ s, l[3 + a / 2]? = some s := ⟨_, List.getElem?_eq_getElem (by rw [HL.out]; exact hk3)⟩
              have hs64 := H64.out _ s hs hk3
              obtain ⟨S3, -, hc3, hr3, hcap3⟩ := (HS.out.below HSr.out.below).get hs
              obtain ⟨b3, o3, hA3, hb3⟩ := rd_first hr3 (by rw [length_bytesV]; omega)
              obtain ⟨A3, c3⟩ := S3
              have hA3 : A3 = some ⟨b3, o3, none⟩ := hA3
              subst hA3
              have hhalf : half l a = (s.drop (32 * (a % 2))).take 32 := by unfold half; rw [List.getD_eq_getElem?_getD, hs]; rfl
              have hhl : (half l a).length = 32 := by rw [hhalf, List.length_take, List.length_drop, hs64]; omega
              have hrh := rd_cut hr3 (32 * (a % 2)) 32
              rw [← hhalf] at hrh
              have HRH := Lib.hid (hrh.more HSr.out.below.size)
              have HTI : Hid (∀ (u : World) (A : Option Addr) (c : Nat), Rd u u.heap.size A (bytesV (half l a)) → 32 ≤ c → Calls Try.prog 48 #[.slice A 32 c] u fun e w' => Inode.HandsN u (Inode.takI (half l a)).1 (Inode.takI (half l a)).2 e w') := Lib.hid (fun u A c hr hc => Inode.rtake_any (half l a) A 32 c u hhl hr hc)
              have hcc : 64 ≤ c3 ∧ c3 ≤ maxLen := by have := hcap3.1; have := hcap3.2; rw [hs64] at *; exact ⟨hcap3.1, hcap3.2⟩
              rw [hs64] at hc3
              have hlti : (a : Int) < (inn : Int) := by omega
              have ha0 : (0 : Int) ≤ (a : Int) := by omega
              have ha64 : a < 64 := by omega
              have e1 : IntKind.i64.wrap (3 + ((a / 2 : Nat) : Int)) = ((3 + a / 2 : Nat) : Int) := by rw [IntKind.wrap_i64]; omega
              have e2 : IntKind.i64.wrap (32 * ((a % 2 : Nat) : Int)) = ((32 * (a % 2) : Nat) : Int) := by rw [IntKind.wrap_i64]; omega
              have e3 : IntKind.i64.wrap (((32 * (a % 2) : Nat) : Int) + 32) = ((32 * (a % 2) + 32 : Nat) : Int) := by rw [IntKind.wrap_i64]; omega
              clear hs hr3 hrh hhalf hhl hcap3 hb3 hs64
              obtain ⟨nv, hnv⟩ : ∃ nv, (Inode.takI (half l a)).1 = nv := ⟨_, rfl⟩
              obtain ⟨er, her⟩ : ∃ er, (Inode.takI (half l a)).2 = er := ⟨_, rfl⟩
              have hok : Inode.Oki nv := by rw [← hnv]; exact HF.out a
              rw [hnv, her] at HTI
              have HOK := Lib.hid hok
              have HNV := Lib.hid hnv
              have HER := Lib.hid her
              have HCX := Lib.hid (Inode.length_cellsI hok)
              have HC1 := Lib.hid (cellsI_one nv)
              have HSX := Lib.hid (size_ino' nv hok)
              obtain ⟨cx, hcx⟩ : ∃ cx, Inode.cellsI nv = cx := ⟨_, rfl⟩
              have HTI2 : Hid (∀ (u : World) (A : Option Addr) (c : Nat), Rd u u.heap.size A (bytesV (half l a)) → 32 ≤ c → Calls Try.prog 48 #[.slice A 32 c] u fun e w' => e = .returned (.tuple #[.agg cx.toArray, .int .i64 (er : Int)]) ∧ Below u.heap.size u w') := by rw [← hcx]; exact HTI
              rw [hcx] at HCX HC1 HSX
              have HEX := Lib.hid hcx
              clear hok hnv her HTI hcx
              by_cases h0 : er = 0
              rotate_left
              · have HBAD := Lib.hid (HR.out.symm.trans (tak_ino (G := ⟨j, (inn : Int), (gn : Int), p⟩) (l := l) (i := a) hlti (by rw [HER.out]; exact h0)))
                have hne : ((er : Int) != 0) = true := by simp; omega
                clear h0
                go_wp2_with (first
                  | (go_at_call 48; (with_reducible refine (HTI2.out _ _ _ HRH.out (by omega)).mono ?_); rintro e w9 ⟨he, hb⟩; obtain rfl := he; have HS9 := Lib.hid (HSr.out.later hb); clear hb g0 g1 g2 g3 hc3)
                  | (refine wpList_store_mid rfl 52 (.tmp 13) (.tmp 103) rfl w9.heap.size 0 cx.toArray rfl rfl (there_new _ _ _ _ (by simp [HCX.out])) HSX.out (all_oneCell_toArray HC1.out) ?_; have HS9b := Lib.hid (HS9.out.later (below_setCells (Nat.le_refl _) cx.toArray.toList 0 (al_below w9 (.cells #[.int .u8 0, .int .u8 0, .int .i64 0, .int .i64 0, .int .i64 0, .int .i64 0, .int .i64 0, .int .i64 0, .int .i64 0, .int .i64 0, .int .i64 0, .int .i64 0, .int .i64 0, .int .i64 0] 52)))); have HRX := Lib.hid (World.rangeAt_setCells_same (w9.alloc (.cells #[.int .u8 0, .int .u8 0, .int .i64 0, .int .i64 0, .int .i64 0, .int .i64 0, .int .i64 0, .int .i64 0, .int .i64 0, .int .i64 0, .int .i64 0, .int .i64 0, .int .i64 0, .int .i64 0] 52)) w9.heap.size 0 cx.toArray.toList (there_new _ _ _ _ (by simp [HCX.out]))); generalize ((w9.alloc (.cells #[.int .u8 0, .int .u8 0, .int .i64 0, .int .i64 0, .int .i64 0, .int .i64 0, .int .i64 0, .int .i64 0, .int .i64 0, .int .i64 0, .int .i64 0, .int .i64 0, .int .i64 0, .int .i64 0] 52)).setCells w9.heap.size 0 cx.toArray.toList) = w9b at *; obtain ⟨m0, m1, m2, m3⟩ := four_cells HS9b.out.res; obtain ⟨f0, f1, f2, f3⟩ := four_frozen HS9b.out.res; have hlt9 := HS9b.out.res.lt))
                exact bad_end HBAD.out HS9b.out.res rfl rfl HS9b.out.below
              subst h0
              have hne : (((0 : Nat) : Int) != 0) = false := rfl
              go_upto_region 24 with (first
                | (go_at_call 48; (with_reducible refine (HTI2.out _ _ _ HRH.out (by omega)).mono ?_); rintro e w9 ⟨he, hb⟩; obtain rfl := he; have HS9 := Lib.hid (HSr.out.later hb); clear hb g0 g1 g2 g3 hc3)
                | (refine wpList_store_mid rfl 52 (.tmp 13) (.tmp 103) rfl w9.heap.size 0 cx.toArray rfl rfl (there_new _ _ _ _ (by simp [HCX.out])) HSX.out (all_oneCell_toArray HC1.out) ?_; have HS9b := Lib.hid (HS9.out.later (below_setCells (Nat.le_refl _) cx.toArray.toList 0 (al_below w9 (.cells #[.int .u8 0, .int .u8 0, .int .i64 0, .int .i64 0, .int .i64 0, .int .i64 0, .int .i64 0, .int .i64 0, .int .i64 0, .int .i64 0, .int .i64 0, .int .i64 0, .int .i64 0, .int .i64 0] 52)))); have HRX := Lib.hid (World.rangeAt_setCells_same (w9.alloc (.cells #[.int .u8 0, .int .u8 0, .int .i64 0, .int .i64 0, .int .i64 0, .int .i64 0, .int .i64 0, .int .i64 0, .int .i64 0, .int .i64 0, .int .i64 0, .int .i64 0, .int .i64 0, .int .i64 0] 52)) w9.heap.size 0 cx.toArray.toList (there_new _ _ _ _ (by simp [HCX.out]))); generalize ((w9.alloc (.cells #[.int .u8 0, .int .u8 0, .int .i64 0, .int .i64 0, .int .i64 0, .int .i64 0, .int .i64 0, .int .i64 0, .int .i64 0, .int .i64 0, .int .i64 0, .int .i64 0, .int .i64 0, .int .i64 0] 52)).setCells w9.heap.size 0 cx.toArray.toList) = w9b at *))
              obtain ⟨m0, m1, m2, m3⟩ := four_cells HS9b.out.cur
              have hli : (⟨tr.rows, ownP s1 gn gn, s2, inoP (fun k => (Inode.takI (half l k)).1) inn a⟩ : Met).ino.length = inn := length_inoP ha
              have m3x : w9b.cell? ⟨M, 3, none⟩ = some (.slice (some ⟨gi, 0, none⟩) inn ic) := by rw [← hli]; exact m3
              have hoi := HS9b.out.own.ino
              rw [hli] at hoi
              have HTH := Lib.hid (there_own hoi hlt)
              have hst := HS9b.out.inode (inoP_oki HF.out inn a) rfl (a := a) (by rw [hli]; exact hlt) (HOK.out)
              have hsp := inoP_step (f := fun k => (Inode.takI (half l k)).1) hlt
              simp only [HNV.out] at hsp
              simp only [hsp] at hst
              rw [HEX.out] at hst
              have HST := Lib.hid hst
              have HRX2 : Hid (w9b.rangeAt w9.heap.size 0 cx) := HRX
              clear m0 m1 m2 m3 hli hoi hst hsp HRX HRH HTI2
              go_wp2_with (first
                | (refine wpList_load_mid rfl 52 (.tmp 13) rfl w9.heap.size 0 rfl cx _ HRX2.out Try.underlying52 rfl HSX.out ?_)
                | (refine wpList_store_mid rfl 52 (.tmp 112) (.tmp 111) rfl gi (a * 14) cx.toArray rfl rfl (by rw [List.size_toArray, HCX.out]; exact HTH.out) HSX.out (all_oneCell_toArray HC1.out) ?_))
              go_roundw
              case rel => exact ⟨a + 1, by go_num, hlt, HST⟩
              case measure => simp [intOf]; omega
            · obtain rfl : inn = a := by omega
              clear hlt ha
              obtain ⟨C, hC⟩ : ∃ C, cand ⟨j, (inn : Int), (gn : Int), p⟩ l = C := ⟨_, rfl⟩
              have hCe : (⟨tr.rows, ownP s1 gn gn, s2, inoP (fun k => (Inode.takI (half l k)).1) inn inn⟩ : Met) = C := by
                rw [← hC]
                unfold cand
                rw [HG0.out, HTR.out, List.getD_eq_getElem?_getD, List.getD_eq_getElem?_getD, HS1.out, HS2.out]
                simp [ownP, ownT, inoP, inoT]
                rfl
              have hc0 : C.rows.length = 16 := by rw [← hCe]; exact HTL.out
              have hc1 : C.own.length = gn := by rw [← hCe]; exact HLO.out
              have hc2 : C.used.length = 64 := by rw [← hCe]; exact HL2.out
              have hc3 : C.ino.length = inn := by rw [← hCe]; exact length_inoP (Nat.le_refl _)
              have hok : Okm C := by rw [← hC]; exact cand_okm (by rw [HG0.out, HTR.out]; exact HER0.out)
              rw [hCe] at HSr
              obtain ⟨m0, m1, m2, m3⟩ := four_cells HSr.out.cur
              have hly := HSr.out.own.lies
              rw [hc0] at m0
              rw [hc1] at m1
              rw [hc2] at m2
              rw [hc3] at m3
              have HCC := Lib.hid hC
              have HOC := Lib.hid hok
              have HC0 := Lib.hid hc0
              have HC1 := Lib.hid hc1
              have HC2 := Lib.hid hc2
              have HC3 := Lib.hid hc3
              have HLY : Hid (∀ u : World, Below wr.heap.size wr u → Calls Try.prog 14 #[.agg #[.int .i64 j, .int .i64 (inn : Int), .int .i64 (gn : Int), .int .i64 p], .agg #[.slice A5 16 c5, .slice (some ⟨go, 0, none⟩) gn oc, .slice A10 64 c10, .slice (some ⟨gi, 0, none⟩) inn ic]] u fun e w' => HandsL u (layM ⟨j, (inn : Int), (gn : Int), p⟩ C) e w') := Lib.hid (fun u hu =>
                rlay_in j inn gn p C HOC.out A5 (some ⟨go, 0, none⟩) A10 (some ⟨gi, 0, none⟩) 16 c5 gn oc 64 c10 inn ic u HC0.out HC1.out HC2.out HC3.out ((hly.below hu).more hu.size) (by have := HI.out; omega))
              clear hC hCe hok hc0 hc1 hc2 hc3 hly HS0 HS1 HS2 HF
              by_cases hRt : Right ⟨j, (inn : Int), (gn : Int), p⟩ C
              rotate_left
              · have HBAD := Lib.hid (HR.out.symm.trans (tak_bad (G := ⟨j, (inn : Int), (gn : Int), p⟩) (l := l) (by rw [HCC.out]; exact hRt)))
                rw [lay_no hRt] at HLY
                clear hRt
                go_wp2_with (go_at_call 14; (with_reducible refine (HLY.out _ (Below.refl _ _)).mono ?_); rintro e w12 ⟨v12, L12, he, -, hb⟩; obtain rfl := he; have HS12 := Lib.hid (HSr.out.later hb); clear hb m0 m1 m2 m3 g0 g1 g2 g3; obtain ⟨m0, m1, m2, m3⟩ := four_cells HS12.out.res; obtain ⟨f0, f1, f2, f3⟩ := four_frozen HS12.out.res; have hlt := HS12.out.res.lt)
                exact bad_end HBAD.out HS12.out.res rfl rfl HS12.out.below
              rw [lay_yes hRt] at HLY
              have hsl := length_secs hRt
              have HRT := Lib.hid hRt
              obtain ⟨sn, hsn⟩ : ∃ sn, (secs C).length = sn := ⟨_, rfl⟩
              have hsn2 : sn ≤ 1000000 := by rw [hsn] at hsl; have := HI.out.1; simp only at hsl; omega
              have HSN := Lib.hid hsn
              clear hRt hsl hsn
              by_cases heq : secs C = l
              rotate_left
              · have HBAD := Lib.hid (HR.out.symm.trans (tak_not (G := ⟨j, (inn : Int), (gn : Int), p⟩) (l := l) (by rw [HCC.out]; exact heq)))
                have hb0 : (secs C == l) = false := by simpa using heq
                have HB0 := Lib.hid hb0
                clear heq hb0
                go_wp2_with (first
                  | (go_at_call 14; (with_reducible refine (HLY.out _ (Below.refl _ _)).mono ?_); rintro e w12 hh; obtain ⟨A12, c12, L12, he, -, -, -, hsa, hb⟩ := hh.got; rw [HSN.out] at he; obtain rfl := he; have HS12 := Lib.hid (HSr.out.later hb); have HO12 := Lib.hid hsa; clear hb hsa m0 m1 m2 m3 g0 g1 g2 g3)
                  | (go_at_call 18; (with_reducible refine (rsec_any (secs C) l _ _ sn n _ _ L12 L _ HSN.out HL.out HO12.out ((HS.out.below HS12.out.below).more HS12.out.below.size) hsn2).mono ?_); rintro e w13 ⟨he, hb⟩; rw [HB0.out] at he; obtain rfl := he; have HS13 := Lib.hid (HS12.out.later hb); clear hb; obtain ⟨m0, m1, m2, m3⟩ := four_cells HS13.out.res; obtain ⟨f0, f1, f2, f3⟩ := four_frozen HS13.out.res; have hlt := HS13.out.res.lt))
                exact bad_end HBAD.out HS13.out.res rfl rfl HS13.out.below
              have HGOOD := Lib.hid (HR.out.symm.trans (tak_cand (G := ⟨j, (inn : Int), (gn : Int), p⟩) (l := l) (by rw [HG0.out, HTR.out]; exact HER0.out) (by rw [HCC.out]; exact HRT.out) (by rw [HCC.out]; exact heq)))
              rw [HCC.out] at HGOOD
              have hb0 : (secs C == l) = true := by simpa using heq
              have HB0 := Lib.hid hb0
              clear heq hb0
              go_wp2_with (first
                | (go_at_call 14; (with_reducible refine (HLY.out _ (Below.refl _ _)).mono ?_); rintro e w12 hh; obtain ⟨A12, c12, L12, he, -, -, -, hsa, hb⟩ := hh.got; rw [HSN.out] at he; obtain rfl := he; have HS12 := Lib.hid (HSr.out.later hb); have HO12 := Lib.hid hsa; clear hb hsa m0 m1 m2 m3 g0 g1 g2 g3)
                | (go_at_call 18; (with_reducible refine (rsec_any (secs C) l _ _ sn n _ _ L12 L _ HSN.out HL.out HO12.out ((HS.out.below HS12.out.below).more HS12.out.below.size) hsn2).mono ?_); rintro e w13 ⟨he, hb⟩; rw [HB0.out] at he; obtain rfl := he; have HS13 := Lib.hid (HS12.out.later hb); clear hb; obtain ⟨m0, m1, m2, m3⟩ := four_cells HS13.out.cur; rw [HC0.out] at m0; rw [HC1.out] at m1; rw [HC2.out] at m2; rw [HC3.out] at m3; obtain ⟨r0, r1, r2, r3⟩ := four_cells HS13.out.res; obtain ⟨f0, f1, f2, f3⟩ := four_frozen HS13.out.res; have hlt := HS13.out.res.lt))
              exact good_end (x := ⟨A5, c5, some ⟨go, 0, none⟩, oc, A10, c10, some ⟨gi, 0, none⟩, ic⟩) HGOOD.out HC0.out HC1.out HC2.out HC3.out HS13.out.res rfl rfl HS13.out.own HS13.out.below
/-- The document's Take, of any parting and any sectors. -/
theorem rtake_any (G : Geo) (l : List (List UInt8)) (A : Option Addr) (n c : Nat) (L : List Sc) (w : World) (hl : l.length = n) (hs : SecsAt w w.heap.size A L l) (hn : n ≤ 1000000) :
    Calls Try.prog 21 #[.agg #[.int .i64 G.j, .int .i64 G.i, .int .i64 G.g, .int .i64 G.p], .slice A n c] w fun e w' => HandsM w (takM G l) e w' := by
  by_cases hv : G.Ok
  · have h1 := hv.i1
    have h2 := hv.g1
    obtain ⟨j, i, g, p⟩ := G
    obtain ⟨inn, hi⟩ := Int.eq_ofNat_of_zero_le (show 0 ≤ i by simp only at h1; omega)
    obtain ⟨gn, hg⟩ := Int.eq_ofNat_of_zero_le (show 0 ≤ g by simp only at h2; omega)
    subst hi hg
    exact rtake_in j p inn gn hv l A n c L w hl hs hn
  · exact rtake_no G.j G.i G.g G.p hv l A n c L w hl hs
end Go.Proofs.Ytaflpigpeckhoaa.Meta
