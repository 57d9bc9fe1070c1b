/-
  Package meta: Take.
-/
import Derived.Test.YtcjkbmmjpkghlaaGreatQMetaX8
import Derived.Test.YtcjkbmmjpkghlaaGreatQMetaX10
import Derived.Test.YtcjkbmmjpkghlaaGreatQMetaX11
import Derived.Test.YtcjkbmmjpkghlaaGreatQInternB
import Derived.Test.YtcjkbmmjpkghlaaGreatQMetaT
namespace Go.Proofs.YtcjkbmmjpkghlaaGreat.Meta
open Go.Proofs.YtcjkbmmjpkghlaaGreat
open Go.RowKit

theorem ptake_end {w V : World} {tm : Array Value} {c0 c1 c2 c3 : Value} {m : Met} {x : Mem} {k : Nat} {r : Met × Nat} (hr : r = (m, k)) (hM : Bk V (w.heap.size + 1) 60 [c0, c1, c2, c3]) (h4 : tm[4]?.getD undef = .pointer (some ⟨w.heap.size + 1, 0, none⟩)) (h5 : tm[5]?.getD undef = .int .i64 (k : Int))
    (ho : OwnM (put4 V (w.heap.size + 1) (.slice x.rA m.rows.length x.rc) (.slice x.oA m.own.length x.oc) (.slice x.uA m.used.length x.uc) (.slice x.iA m.ino.length x.ic)) w.heap.size x m) (hb : Below w.heap.size w V) :
    bodyPost Tryz.prog Tryz.f63 (fun e w' => HandsM w r e w') .ret { tmps := tm, defers := [] } (put4 V (w.heap.size + 1) (.slice x.rA m.rows.length x.rc) (.slice x.oA m.own.length x.oc) (.slice x.uA m.used.length x.uc) (.slice x.iA m.ino.length x.ic)) := by
  subst hr
  obtain ⟨d0, d1, d2, d3⟩ := four_cells (put4_bk (a0 := .slice x.rA m.rows.length x.rc) (a1 := .slice x.oA m.own.length x.oc) (a2 := .slice x.uA m.used.length x.uc) (a3 := .slice x.iA m.ino.length x.ic) hM)
  refine bodyPost_ret (v := .tuple #[x.v m, .int .i64 (k : Int)]) ?_ rfl ⟨x, rfl, ho, put4_below hb (by omega) _ _ _ _⟩
  generalize put4 V (w.heap.size + 1) (.slice x.rA m.rows.length x.rc) (.slice x.oA m.own.length x.oc) (.slice x.uA m.used.length x.uc) (.slice x.iA m.ino.length x.ic) = U at *
  simp [results, Tryz.results63, go_sem, Mem.v, *]
theorem pgood_end {w V : World} {tm : Array Value} {c0 c1 c2 c3 : Value} {m : Met} {x : Mem} {r : Met × Nat} {rn on_ un in_ : Nat} (hr : r = (m, 0)) (hrn : m.rows.length = rn) (hon : m.own.length = on_) (hun : m.used.length = un) (hin : m.ino.length = in_)
    (hM : Bk V (w.heap.size + 1) 60 [c0, c1, c2, c3]) (h4 : tm[4]?.getD undef = .pointer (some ⟨w.heap.size + 1, 0, none⟩)) (h5 : tm[5]?.getD undef = .int .i64 0) (ho : OwnM V w.heap.size x m) (hb : Below w.heap.size w V) :
    bodyPost Tryz.prog Tryz.f63 (fun e w' => HandsM w r e w') .ret { tmps := tm, defers := [] } (put4 V (w.heap.size + 1) (.slice x.rA rn x.rc) (.slice x.oA on_ x.oc) (.slice x.uA un x.uc) (.slice x.iA in_ x.ic)) := by
  subst hrn hon hun hin
  exact ptake_end (k := 0) hr hM h4 h5 (ownM_set (((hM.set 0 _).set 1 _).set 2 _) (ownM_set ((hM.set 0 _).set 1 _) (ownM_set (hM.set 0 _) (ownM_set hM ho 0 _) 1 _) 2 _) 3 _) hb
theorem pbad_end {w V : World} {tm : Array Value} {c0 c1 c2 c3 : Value} {r : Met × Nat} (hr : r = (.z, 140)) (hM : Bk V (w.heap.size + 1) 60 [c0, c1, c2, c3]) (h4 : tm[4]?.getD undef = .pointer (some ⟨w.heap.size + 1, 0, none⟩)) (h5 : tm[5]?.getD undef = .int .i64 140) (hb : Below w.heap.size w V) :
    bodyPost Tryz.prog Tryz.f63 (fun e w' => HandsM w r e w') .ret { tmps := tm, defers := [] } (put4 V (w.heap.size + 1) (.slice none 0 0) (.slice none 0 0) (.slice none 0 0) (.slice none 0 0)) :=
  ptake_end (x := memZ) (m := .z) hr hM h4 h5 (ownM_z _ _) hb

theorem half_part0 {l : List (List UInt8)} {k : Nat} {s : List UInt8} (h : l[3 + k]? = some s) : half l (2 * k) = part s 0 ∧ half l (2 * k + 1) = part s 1 := by
  have e1 : l.getD (3 + k) [] = s := by rw [List.getD_eq_getElem?_getD, h]; rfl
  have e2 : 2 * k / 2 = k := by omega
  have e3 : (2 * k + 1) / 2 = k := by omega
  have e4 : 2 * k % 2 = 0 := by omega
  have e5 : (2 * k + 1) % 2 = 1 := by omega
  unfold half part
  rw [e2, e3, e1, e4, e5]
  exact ⟨rfl, rfl⟩
theorem inoS_inoT {l : List (List UInt8)} : ∀ {k : Nat}, 3 + k ≤ l.length → inoS (l.drop 3) k = inoT l (2 * k)
  | 0, _ => by simp [inoS, inoT]
  | k + 1, h => by
    obtain ⟨s, hs⟩ : ∃ s, l[3 + k]? = some s := ⟨_, List.getElem?_eq_getElem (by omega)⟩
    obtain ⟨h1, h2⟩ := half_part0 hs
    rw [inoS_step (s := s) (by rw [List.getElem?_drop]; exact hs), inoS_inoT (by omega), show 2 * (k + 1) = 2 * k + 1 + 1 by omega, inoT_succ, inoT_succ, h1, h2, List.append_assoc]
    rfl
theorem takR_bad {b : List UInt8} (h : (Intern.takR b).err ≠ 0) : (Intern.takR b).rows = [] := by
  by_cases hl : b.length = 64
  · by_cases hr : Intern.Right (Intern.rowsOf (takel 2 b))
    · rw [Intern.takR_yes hl hr] at h
      exact absurd rfl h
    · rw [Intern.takR_no hl hr]
      rfl
  · rw [Intern.takR_len hl]
    rfl
theorem cand_ok (G : Geo) (l : List (List UInt8)) : Okm (cand G l) := by
  by_cases h : (Intern.takR (l.getD 0 [])).err = 0
  · exact cand_okm h
  · refine ⟨?_, ownT_ok _ _, inoT_oki _ _⟩
    show Intern.Oks (Intern.takR (l.getD 0 [])).rows
    rw [takR_bad h]
    exact fun r hr => by cases hr
theorem cand_err {G : Geo} {l : List (List UInt8)} (h : Right G (cand G l)) : (Intern.takR (l.getD 0 [])).err = 0 := by
  by_cases h0 : (Intern.takR (l.getD 0 [])).err = 0
  · exact h0
  · have := h.rows.len
    change (Intern.takR (l.getD 0 [])).rows.length = 16 at this
    rw [takR_bad h0] at this
    cases this
theorem Sta.put {w u : World} {M : Nat} {G : List Value} {x : Mem} {m : Met} {c0 c1 c2 c3 : Value} (hG : Bk u w.heap.size 29 G) (hR : Bk u (w.heap.size + 1) 60 [.slice none 0 0, .slice none 0 0, .slice none 0 0, .slice none 0 0]) (hM : Bk u M 60 [c0, c1, c2, c3]) (ho : OwnM u w.heap.size x m) (hb : Below w.heap.size w u) (hlt : w.heap.size + 1 < M) :
    Sta w M G x m (put4 u M (.slice x.rA m.rows.length x.rc) (.slice x.oA m.own.length x.oc) (.slice x.uA m.used.length x.uc) (.slice x.iA m.ino.length x.ic)) :=
  ⟨put4_far hG (by omega) _ _ _ _, put4_far hR (by omega) _ _ _ _, put4_bk hM, ownM_set (((hM.set 0 _).set 1 _).set 2 _) (ownM_set ((hM.set 0 _).set 1 _) (ownM_set (hM.set 0 _) (ownM_set hM ho 0 _) 1 _) 2 _) 3 _, put4_below hb (by omega) _ _ _ _, hlt⟩
theorem SecsAt.from3 {w : World} {B b o : Nat} {L : List Sc} {l : List (List UInt8)} (h : SecsAt w B (some ⟨b, o, none⟩) L l) : SecsAt w B (some ⟨b, o + 3, none⟩) (L.drop 3) (l.drop 3) := by
  have hz : secsV (L.drop 3) (l.drop 3) = (secsV L l).drop 3 := by
    unfold secsV
    rw [List.zip_eq_zipWith, List.zip_eq_zipWith, ← List.drop_zipWith, List.map_drop]
  refine ⟨by rw [List.length_drop, List.length_drop, h.len], ?_, fun i s b h1 h2 => ?_⟩
  · rw [hz]
    rcases h.rd with h0 | ⟨b', o', e, h2, h3⟩
    · exact .inl (by rw [h0]; rfl)
    · injection e with e
      injection e with e1 e2 _
      subst e1 e2
      refine .inr ⟨b, o + 3, rfl, h2, fun j u hu => ?_⟩
      rw [List.getElem?_drop] at hu
      have := h3 _ u hu
      rw [show o + 3 + j = o + (3 + j) by omega]
      exact this
  · rw [List.getElem?_drop] at h1 h2
    exact h.each _ s b h1 h2
theorem own_slice14 {w : World} {base : Nat} {e : TypeId} {v : Value} {k n : Nat} {xs : List Value} (h : w.ownsRow base e k v n xs) : ∃ A c, v = .slice A n c := own_slice_any h
set_option maxRecDepth 100000 in
set_option maxHeartbeats 6400000 in
theorem ptake_in (j p : Int) (inn gn : Nat) (l : List (List UInt8)) (A : Option Addr) (n c : Nat) (L : List Sc) (w : World) (hl : l.length = n) (hs : SecsAt w w.heap.size A L l) (hn : n ≤ 1000000) (hcap : n ≤ c) :
    Calls Tryz.prog 63 #[.agg #[.int .i64 j, .int .i64 (inn : Int), .int .i64 (gn : Int), .int .i64 p], .slice A n c] w fun e w' => HandsM w (takM ⟨j, (inn : Int), (gn : Int), p⟩ l) e w' := by
  have HS := Lib.hid hs
  have HL := Lib.hid hl
  obtain ⟨W, hW⟩ : ∃ W, W = (w.alloc (.cells #[.int .i64 j, .int .i64 (inn : Int), .int .i64 (gn : Int), .int .i64 p] 29)).alloc (.cells #[.slice none 0 0, .slice none 0 0, .slice none 0 0, .slice none 0 0] 60) := ⟨_, rfl⟩
  have hbW : Below w.heap.size w W := by rw [hW]; exact (Below.refl _ _).alloc (Nat.le_refl _) _ |>.alloc (by simp) _
  have hG : Bk W w.heap.size 29 [.int .i64 j, .int .i64 (inn : Int), .int .i64 (gn : Int), .int .i64 p] := by rw [hW]; exact (Bk.new w 29 [.int .i64 j, .int .i64 (inn : Int), .int .i64 (gn : Int), .int .i64 p]).below ((Below.refl _ _).alloc (Nat.le_refl _) _) (by simp)
  have hM : Bk W (w.heap.size + 1) 60 [.slice none 0 0, .slice none 0 0, .slice none 0 0, .slice none 0 0] := by
    rw [hW]
    have := Bk.new (w.alloc (.cells #[.int .i64 j, .int .i64 (inn : Int), .int .i64 (gn : Int), .int .i64 p] 29)) 60 [.slice none 0 0, .slice none 0 0, .slice none 0 0, .slice none 0 0]
    simpa using this
  have HG := Lib.hid hG
  have HM := Lib.hid hM
  have HB := Lib.hid hbW
  have HW := Lib.hid hW
  obtain ⟨g0, g1, g2, g3⟩ := four_cells hG
  clear hbW hG hM hW
  obtain ⟨sb, hsb⟩ : ∃ sb, secB ⟨j, (inn : Int), (gn : Int), p⟩ l = sb := ⟨_, rfl⟩
  have HAS : Hid (∀ u : World, Below w.heap.size w u → Calls Tryz.prog 121 #[.agg #[.int .i64 j, .int .i64 (inn : Int), .int .i64 (gn : Int), .int .i64 p], .slice A n c] u fun e w' => e = .returned (.bool sb) ∧ Below u.heap.size u w') := Lib.hid (fun u hu => by
    have := assec_any j inn gn p l A n c L u hl ((HS.out.below hu).more hu.size) hn
    rwa [hsb] at this)
  by_cases hsec : Geo.Ok ⟨j, (inn : Int), (gn : Int), p⟩ ∧ (l.length : Int) = 3 + (inn : Int) / 2 ∧ ∀ s ∈ l, s.length = 64
  rotate_left
  · have hbad : takM ⟨j, (inn : Int), (gn : Int), p⟩ l = (.z, 140) := by
      by_cases h1 : Geo.Ok ⟨j, (inn : Int), (gn : Int), p⟩
      · by_cases h2 : (l.length : Int) = 3 + (inn : Int) / 2
        · obtain ⟨s, h3, h4⟩ : ∃ s ∈ l, s.length ≠ 64 := by
            apply Classical.byContradiction
            intro h
            refine hsec ⟨h1, h2, fun s hs => ?_⟩
            apply Classical.byContradiction
            intro h5
            exact h ⟨s, hs, h5⟩
          obtain ⟨i, hi⟩ := List.mem_iff_getElem?.1 h3
          exact tak_64 hi h4
        · exact tak_len h2
      · exact tak_geo h1
    have hsf : sb = false := by rw [← hsb]; exact Inode.decB_no hsec
    subst hsf
    rw [hbad]
    clear hsec hbad hsb hs hl
    go_enter Tryz.func63, Tryz.ntmps63
    go_upto_region 1 with fail
    rw [← HW.out]
    go_wp2_with (go_at_call 121; (with_reducible refine (HAS.out _ HB.out).mono ?_); rintro e w1 ⟨he, hb⟩; obtain rfl := he; have HM2 := Lib.hid (HM.out.below hb HM.out.lt); have HB2 := Lib.hid (HB.out.trans (hb.mono HB.out.size)); clear hb; obtain ⟨m0, m1, m2, m3⟩ := four_cells HM2.out; obtain ⟨f0, f1, f2, f3⟩ := four_frozen HM2.out; have hlt := HM2.out.lt)
    exact pbad_end rfl HM2.out rfl rfl HB2.out
  have hst : sb = true := by rw [← hsb]; exact Inode.decB_yes hsec
  subst hst
  obtain ⟨hok, hlen, h64⟩ := hsec
  rw [hl] at hlen
  have hi1 := hok.i1
  have hi2 := hok.i2
  have hi3 := hok.i3
  have hg1 := hok.g1
  have hg2 := hok.g2
  simp only at hi1 hi2 hi3 hg1 hg2
  have hn4 : 4 ≤ n := by omega
  have hn35 : n ≤ 35 := by omega
  obtain ⟨b, o, hA, hbb⟩ := hs.first (by rw [hl]; omega)
  subst hA
  obtain ⟨s0, h0⟩ : ∃ s, l[0]? = some s := ⟨_, List.getElem?_eq_getElem (by rw [hl]; omega)⟩
  obtain ⟨s1, h1⟩ : ∃ s, l[1]? = some s := ⟨_, List.getElem?_eq_getElem (by rw [hl]; omega)⟩
  obtain ⟨s2, h2⟩ : ∃ s, l[2]? = some s := ⟨_, List.getElem?_eq_getElem (by rw [hl]; omega)⟩
  have l0 := h64 _ (List.mem_of_getElem? h0)
  have l1 := h64 _ (List.mem_of_getElem? h1)
  have l2 := h64 _ (List.mem_of_getElem? h2)
  obtain ⟨S0, e0, -, r0, k0, -⟩ := hs.get h0
  obtain ⟨S1, e1, -, r1, k1, -⟩ := hs.get h1
  obtain ⟨S2, e2, -, r2, k2, -⟩ := hs.get h2
  obtain ⟨A0, c0⟩ := S0
  obtain ⟨A1, c1⟩ := S1
  obtain ⟨A2, c2⟩ := S2
  obtain ⟨b1, o1, hA1, -⟩ := rd_first r1 (by rw [length_bytesV]; omega)
  have hA1 : A1 = some ⟨b1, o1, none⟩ := hA1
  subst hA1
  have k0 : 64 ≤ c0 := by rw [← l0]; exact k0
  have k1 : 64 ≤ c1 := by rw [← l1]; exact k1
  have HCE : Hid (∀ u : World, Below w.heap.size w u → u.cell? ⟨b, o, none⟩ = some (.slice A0 64 c0) ∧ u.cell? ⟨b, o + 1, none⟩ = some (.slice (some ⟨b1, o1, none⟩) 64 c1) ∧ u.cell? ⟨b, o + 2, none⟩ = some (.slice A2 64 c2)) := Lib.hid (fun u hu => by
    obtain ⟨T0, f0, q0, -⟩ := (hs.below hu).get h0
    obtain ⟨T1, f1, q1, -⟩ := (hs.below hu).get h1
    obtain ⟨T2, f2, q2, -⟩ := (hs.below hu).get h2
    rw [e0] at f0; injection f0 with f0
    rw [e1] at f1; injection f1 with f1
    rw [e2] at f2; injection f2 with f2
    rw [← f0, l0] at q0
    rw [← f1, l1] at q1
    rw [← f2, l2] at q2
    exact ⟨q0, q1, q2⟩)
  obtain ⟨ec, er, hrows, herr⟩ : ∃ ec er, (Intern.takR s0).rows = ec ∧ (Intern.takR s0).err = er := ⟨_, _, rfl, rfl⟩
  have HIT : Hid (∀ u : World, Below w.heap.size w u → Calls Tryz.prog 122 #[.slice A0 64 c0] u fun e w' => ∃ v, e = .returned (.tuple #[v, .int .i64 (er : Int)]) ∧ w'.ownsRow u.heap.size 68 2 v ec.length (Intern.rowsV ec) ∧ Below u.heap.size u w') := Lib.hid (fun u hu => by
    have := Intern.take_any s0 A0 64 c0 u l0 ((r0.below hu).more hu.size) k0
    refine this.mono ?_
    rintro e w' ⟨v, he, hv, hb⟩
    rw [herr] at he
    rw [hrows] at hv
    exact ⟨v, he, hv, hb⟩)
  have HTO : Hid (∀ u : World, Below w.heap.size w u → Calls Tryz.prog 123 #[.slice (some ⟨b1, o1, none⟩) gn c1] u fun e w' => e = .returned (.slice (some ⟨u.heap.size, 0, none⟩) gn gn) ∧ Bk w' u.heap.size 3 (Inode.intsV (ownT s1 gn)) ∧ Below u.heap.size u w') := Lib.hid (fun u hu => takeown_any (s1.take gn) (some ⟨b1, o1, none⟩) gn c1 u (by rw [List.length_take]; omega) (by
    have := (rd_cut r1 0 gn).below hu
    rw [List.drop_zero, Nat.add_zero] at this
    exact this.more hu.size) (by omega))
  have HCB : Hid (∀ u : World, Below w.heap.size w u → Calls Tryz.prog 106 #[.slice A2 64 c2] u fun e w' => e = .returned (.slice (some ⟨u.heap.size, 0, none⟩) 64 64) ∧ w' = u.alloc (.cells (bytesV s2).toArray 5)) := Lib.hid (fun u hu => copied_u8 (bytesV s2) A2 64 c2 u (by rw [length_bytesV, l2]) (bytesV_one _) ((r2.below hu).more hu.size) (by omega))
  have hdrop : SecsAt w w.heap.size (some ⟨b, o + 3, none⟩) (L.drop 3) (l.drop 3) := SecsAt.from3 hs
  have hTI : inoS (l.drop 3) (n - 3) = inoT l inn := by
    rw [inoS_inoT (by omega)]
    congr 1
    omega
  have h2n : 2 * (n - 3) = inn := by omega
  have HTI : Hid (∀ u : World, Below w.heap.size w u → Calls Tryz.prog 124 #[.slice (some ⟨b, o + 3, none⟩) (n - 3) (c - 3)] u fun e w' => ∃ v, e = .returned v ∧ w'.ownsRow u.heap.size 40 14 v inn (inosV (inoT l inn)) ∧ Below u.heap.size u w') := Lib.hid (fun u hu => by
    have := takeino_in (l.drop 3) (fun s h => h64 s (List.mem_of_mem_drop h)) b (o + 3) (n - 3) (c - 3) (L.drop 3) u (by rw [List.length_drop, hl]) ((hdrop.below hu).more hu.size) (by omega)
    rw [hTI, h2n] at this
    exact this)
  obtain ⟨C, hC⟩ : ∃ C, cand ⟨j, (inn : Int), (gn : Int), p⟩ l = C := ⟨_, rfl⟩
  have hg0 : l.getD 0 [] = s0 := by rw [List.getD_eq_getElem?_getD, h0]; rfl
  have hg1' : l.getD 1 [] = s1 := by rw [List.getD_eq_getElem?_getD, h1]; rfl
  have hg2' : l.getD 2 [] = s2 := by rw [List.getD_eq_getElem?_getD, h2]; rfl
  have hCe : C = ⟨(Intern.takR s0).rows, ownT s1 gn, s2, inoT l inn⟩ := by
    rw [← hC]
    unfold cand
    rw [hg0, hg1', hg2']
    simp
  have HCO : Hid (Okm C) := Lib.hid (by rw [← hC]; exact cand_ok _ _)
  have HC0 := Lib.hid (show C.rows = ec by rw [hCe, ← hrows])
  have HC1 := Lib.hid (show C.own = ownT s1 gn by rw [hCe])
  have HC2 := Lib.hid (show C.used = s2 by rw [hCe])
  have HC3 := Lib.hid (show C.ino = inoT l inn by rw [hCe])
  have HN1 : Hid (C.own.length = gn) := Lib.hid (by rw [hCe]; exact length_ownT (by omega))
  have HN2 : Hid (C.used.length = 64) := Lib.hid (by rw [hCe]; exact l2)
  have HN3 : Hid (C.ino.length = inn) := Lib.hid (by rw [hCe]; exact length_inoT _ _)
  have HL2 := Lib.hid l2
  obtain ⟨R, hR⟩ : ∃ R, takM ⟨j, (inn : Int), (gn : Int), p⟩ l = R := ⟨_, rfl⟩
  rw [hR]
  have HR := Lib.hid hR
  have HCC := Lib.hid hC
  have HGZ := Lib.hid hg0
  have HI : Hid (inn ≤ 64 ∧ gn ≤ 64) := Lib.hid (by omega)
  have hgn64 : (gn : Int) ≤ (c1 : Int) := by omega
  have hgn0 : (0 : Int) ≤ (gn : Int) := by omega
  have hc3 : c ≠ 3 := by omega
  have hn3 : 3 ≤ n := by omega
  have hi1n : (1 : Int) < (n : Int) := by omega
  have hi2n : (2 : Int) < (n : Int) := by omega
  have hi3n : (3 : Int) ≤ (n : Int) := by omega
  have hi3c : (3 : Int) ≤ (c : Int) := by omega
  have hinc : (n : Int) ≤ (c : Int) := by omega
  clear hrows herr hR hC hCe hg0 hg1' hg2' hTI h2n hdrop hok hlen h64 hi1 hi2 hi3 hg1 hg2 hn4 hn35 h0 h1 h2 l0 l1 l2 e0 e1 e2 r0 r1 r2 k0 k1 k2 hbb hsb hs hl
  obtain ⟨q0, q1, q2⟩ := HCE.out _ HB.out
  go_enter Tryz.func63, Tryz.ntmps63
  go_upto_region 1 with fail
  rw [← HW.out]
  go_upto_region 4 with (first
    | (go_at_call 121; (with_reducible refine (HAS.out _ HB.out).mono ?_); rintro e w1 ⟨he, hb⟩; obtain rfl := he; have HG2 := Lib.hid (HG.out.below hb HG.out.lt); have HM2 := Lib.hid (HM.out.below hb HM.out.lt); have HB2 := Lib.hid (HB.out.trans (hb.mono HB.out.size)); clear hb q0 q1 q2 g0 g1 g2 g3; obtain ⟨q0, q1, q2⟩ := HCE.out _ HB2.out)
    | (go_at_call 122; (with_reducible refine (HIT.out _ HB2.out).mono ?_); rintro e w2 ⟨v6, he, hv6, hb⟩; obtain rfl := he; have HG3 := Lib.hid (HG2.out.below hb HG2.out.lt); have HM3 := Lib.hid (HM2.out.below hb HM2.out.lt); have HB3 := Lib.hid (HB2.out.trans (hb.mono HB2.out.size)); have HV6 := Lib.hid (own_mono hv6 HB2.out.size); obtain ⟨A6, c6, hv⟩ := own_slice_any hv6; subst hv; clear hb hv6 q0 q1 q2))
  have hS0 : Below w.heap.size w w2.drew ∧ Bk w2.drew w.heap.size 29 [.int .i64 j, .int .i64 (inn : Int), .int .i64 (gn : Int), .int .i64 p] ∧ Bk w2.drew (w.heap.size + 1) 60 [.slice none 0 0, .slice none 0 0, .slice none 0 0, .slice none 0 0] ∧ (w2.drew).ownsRow w.heap.size 68 2 (.slice A6 ec.length c6) ec.length (Intern.rowsV ec) := ⟨HB3.out.drew, HG3.out, HM3.out, HV6.out⟩
  refine wp_region_held_drew (S := fun u => Below w.heap.size w u ∧ Bk u w.heap.size 29 [.int .i64 j, .int .i64 (inn : Int), .int .i64 (gn : Int), .int .i64 p] ∧ Bk u (w.heap.size + 1) 60 [.slice none 0 0, .slice none 0 0, .slice none 0 0, .slice none 0 0] ∧ (u).ownsRow w.heap.size 68 2 (.slice A6 ec.length c6) ec.length (Intern.rowsV ec)) (by kernel_rfl) hS0 (fun hHeld => ?_)
  refine wpAnyH_take (i := 0) (oi := _) (v := ?_) (by simp only [List.getElem?_toArray, List.getElem?_cons_zero]; rfl) (by kernel_rfl) (by kernel_rfl) (by kernel_rfl) (by exact fun _ _ _ h => h) (Or.inl ⟨by rfl, ?hya0⟩) (by exact hHeld) ?rea0
  case hya0 => (intro u hu; obtain ⟨q0, q1, q2⟩ := HCE.out _ hu.1; obtain ⟨g0, g1, g2, g3⟩ := four_cells hu.2.1; clear hu; go_simp <;> with_reducible rfl)
  try simp only [Act.put, List.setIfInBounds_toArray, List.set_cons_zero, List.set_cons_succ]
  refine wpAnyH_take (i := 1) (oi := _) (v := ?_) (by simp only [List.getElem?_toArray, List.getElem?_cons_succ, List.getElem?_cons_zero]; rfl) (by kernel_rfl) (by kernel_rfl) (by kernel_rfl) (by exact fun _ _ _ h => h) (Or.inl ⟨by rfl, ?hya1⟩) (by exact hHeld) ?rea1
  case hya1 => (intro u hu; obtain ⟨q0, q1, q2⟩ := HCE.out _ hu.1; obtain ⟨g0, g1, g2, g3⟩ := four_cells hu.2.1; clear hu; go_simp <;> with_reducible rfl)
  try simp only [Act.put, List.setIfInBounds_toArray, List.set_cons_zero, List.set_cons_succ]
  refine wpAnyH_take (i := 2) (oi := _) (v := ?_) (by simp only [List.getElem?_toArray, List.getElem?_cons_succ, List.getElem?_cons_zero]; rfl) (by kernel_rfl) (by kernel_rfl) (by kernel_rfl) (by exact fun _ _ _ h => h) (Or.inl ⟨by rfl, ?hya2⟩) (by exact hHeld) ?rea2
  case hya2 => (intro u hu; obtain ⟨q0, q1, q2⟩ := HCE.out _ hu.1; obtain ⟨g0, g1, g2, g3⟩ := four_cells hu.2.1; clear hu; go_simp <;> with_reducible rfl)
  try simp only [Act.put, List.setIfInBounds_toArray, List.set_cons_zero, List.set_cons_succ]
  refine wpAnyH_take (i := 3) (oi := _) (v := ?_) (by simp only [List.getElem?_toArray, List.getElem?_cons_succ, List.getElem?_cons_zero]; rfl) (by kernel_rfl) (by kernel_rfl) (by kernel_rfl) (by exact fun _ _ _ h => h) (Or.inl ⟨by rfl, ?hya3⟩) (by exact hHeld) ?rea3
  case hya3 => (intro u hu; obtain ⟨q0, q1, q2⟩ := HCE.out _ hu.1; obtain ⟨g0, g1, g2, g3⟩ := four_cells hu.2.1; clear hu; go_simp <;> with_reducible rfl)
  try simp only [Act.put, List.setIfInBounds_toArray, List.set_cons_zero, List.set_cons_succ]
  refine wpAnyH_take (i := 4) (oi := _) (v := ?_) (by simp only [List.getElem?_toArray, List.getElem?_cons_succ, List.getElem?_cons_zero]; rfl) (by kernel_rfl) (by kernel_rfl) (by kernel_rfl) (by exact fun _ _ _ h => h) (Or.inl ⟨by rfl, ?hya4⟩) (by exact hHeld) ?rea4
  case hya4 => (intro u hu; obtain ⟨q0, q1, q2⟩ := HCE.out _ hu.1; obtain ⟨g0, g1, g2, g3⟩ := four_cells hu.2.1; clear hu; go_simp <;> with_reducible rfl)
  try simp only [Act.put, List.setIfInBounds_toArray, List.set_cons_zero, List.set_cons_succ]
  refine wpAnyH_take (i := 5) (oi := _) (v := ?_) (by simp only [List.getElem?_toArray, List.getElem?_cons_succ, List.getElem?_cons_zero]; rfl) (by kernel_rfl) (by kernel_rfl) (by kernel_rfl) (by exact fun _ _ _ h => h) (Or.inl ⟨by rfl, ?hya5⟩) (by exact hHeld) ?rea5
  case hya5 => (intro u hu; obtain ⟨q0, q1, q2⟩ := HCE.out _ hu.1; obtain ⟨g0, g1, g2, g3⟩ := four_cells hu.2.1; clear hu; go_simp <;> with_reducible rfl)
  try simp only [Act.put, List.setIfInBounds_toArray, List.set_cons_zero, List.set_cons_succ]
  refine wpAnyH_take (i := 6) (oi := _) (v := ?_) (by simp only [List.getElem?_toArray, List.getElem?_cons_succ, List.getElem?_cons_zero]; rfl) (by kernel_rfl) (by kernel_rfl) (by kernel_rfl) (by exact fun _ _ _ h => h) (Or.inl ⟨by rfl, ?hya6⟩) (by exact hHeld) ?rea6
  case hya6 => (intro u hu; obtain ⟨q0, q1, q2⟩ := HCE.out _ hu.1; obtain ⟨g0, g1, g2, g3⟩ := four_cells hu.2.1; clear hu; go_simp <;> with_reducible rfl)
  try simp only [Act.put, List.setIfInBounds_toArray, List.set_cons_zero, List.set_cons_succ]
  refine wpAnyH_take (i := 8) (oi := _) (v := ?_) (by simp only [List.getElem?_toArray, List.getElem?_cons_succ, List.getElem?_cons_zero]; rfl) (by kernel_rfl) (by kernel_rfl) (by kernel_rfl) (by exact fun _ _ _ h => h) (Or.inl ⟨by rfl, ?hya8⟩) (by exact hHeld) ?rea8
  case hya8 => (intro u hu; obtain ⟨q0, q1, q2⟩ := HCE.out _ hu.1; obtain ⟨g0, g1, g2, g3⟩ := four_cells hu.2.1; clear hu; go_simp <;> with_reducible rfl)
  try simp only [Act.put, List.setIfInBounds_toArray, List.set_cons_zero, List.set_cons_succ]
  refine wpAnyH_take (i := 9) (oi := _) (v := ?_) (by simp only [List.getElem?_toArray, List.getElem?_cons_succ, List.getElem?_cons_zero]; rfl) (by kernel_rfl) (by kernel_rfl) (by kernel_rfl) (by exact fun _ _ _ h => h) (Or.inl ⟨by rfl, ?hya9⟩) (by exact hHeld) ?rea9
  case hya9 => (intro u hu; obtain ⟨q0, q1, q2⟩ := HCE.out _ hu.1; obtain ⟨g0, g1, g2, g3⟩ := four_cells hu.2.1; clear hu; go_simp <;> with_reducible rfl)
  try simp only [Act.put, List.setIfInBounds_toArray, List.set_cons_zero, List.set_cons_succ]
  refine wpAnyH_take (i := 10) (oi := _) (v := ?_) (by simp only [List.getElem?_toArray, List.getElem?_cons_succ, List.getElem?_cons_zero]; rfl) (by kernel_rfl) (by kernel_rfl) (by kernel_rfl) (by exact fun _ _ _ h => h) (Or.inl ⟨by rfl, ?hya10⟩) (by exact hHeld) ?rea10
  case hya10 => (intro u hu; obtain ⟨q0, q1, q2⟩ := HCE.out _ hu.1; obtain ⟨g0, g1, g2, g3⟩ := four_cells hu.2.1; clear hu; go_simp <;> with_reducible rfl)
  try simp only [Act.put, List.setIfInBounds_toArray, List.set_cons_zero, List.set_cons_succ]
  refine wpAnyH_take (i := 12) (oi := _) (v := ?_) (by simp only [List.getElem?_toArray, List.getElem?_cons_succ, List.getElem?_cons_zero]; rfl) (by kernel_rfl) (by kernel_rfl) (by kernel_rfl) (by exact fun _ _ _ h => h) (Or.inl ⟨by rfl, ?hya12⟩) (by exact hHeld) ?rea12
  case hya12 => (intro u hu; obtain ⟨q0, q1, q2⟩ := HCE.out _ hu.1; obtain ⟨g0, g1, g2, g3⟩ := four_cells hu.2.1; clear hu; go_simp <;> with_reducible rfl)
  try simp only [Act.put, List.setIfInBounds_toArray, List.set_cons_zero, List.set_cons_succ]
  refine wpAnyH_take (i := 13) (oi := _) (v := ?_) (by simp only [List.getElem?_toArray, List.getElem?_cons_succ, List.getElem?_cons_zero]; rfl) (by kernel_rfl) (by kernel_rfl) (by kernel_rfl) (by exact fun _ _ _ h => h) (Or.inl ⟨by rfl, ?hya13⟩) (by exact hHeld) ?rea13
  case hya13 => (intro u hu; obtain ⟨q0, q1, q2⟩ := HCE.out _ hu.1; obtain ⟨g0, g1, g2, g3⟩ := four_cells hu.2.1; clear hu; go_simp <;> with_reducible rfl)
  try simp only [Act.put, List.setIfInBounds_toArray, List.set_cons_zero, List.set_cons_succ]
  clear hS0
  generalize w2.drew = u0 at *
  refine wpAnyH_ready (rs := [7, 16]) (by kernel_rfl) (by simp) ?_
  refine AllReadyH.cons (o := _) (by simp only [List.getElem?_toArray, List.getElem?_cons_succ, List.getElem?_cons_zero]; rfl) (fun K hK => ?_) (AllReadyH.cons (o := _) (by simp only [List.getElem?_toArray, List.getElem?_cons_succ, List.getElem?_cons_zero]; rfl) (fun K hK => ?_) (AllReadyH.nil))
  · go_simp
    (with_reducible refine (HTO.out _ hHeld.1).mono ?_)
    rintro e u1 ⟨he, hk, hb⟩; obtain rfl := he
    have KO := Lib.hid hk
    have LO : Hid (w.heap.size ≤ u0.heap.size) := Lib.hid hHeld.1.size
    have hS : Below w.heap.size w u1 ∧ Bk u1 w.heap.size 29 [.int .i64 j, .int .i64 (inn : Int), .int .i64 (gn : Int), .int .i64 p] ∧ Bk u1 (w.heap.size + 1) 60 [.slice none 0 0, .slice none 0 0, .slice none 0 0, .slice none 0 0] ∧ (u1).ownsRow w.heap.size 68 2 (.slice A6 ec.length c6) ec.length (Intern.rowsV ec) := ⟨hHeld.1.trans (hb.mono hHeld.1.size), hHeld.2.1.below hb hHeld.2.1.lt, hHeld.2.2.1.below hb hHeld.2.2.1.lt, own_below hHeld.2.2.2 hb⟩
    clear hk
    clear hb
    go_simp
    refine hK.out _ _ hS (fun hHeld2 => ?_)
    clear hK K hHeld hS
    have hHeld := hHeld2
    clear hHeld2
    try simp only [Act.put, List.setIfInBounds_toArray, List.set_cons_zero, List.set_cons_succ]
    refine wpAnyH_ready (rs := [11, 16]) (by kernel_rfl) (by simp) ?_
    refine AllReadyH.cons (o := _) (by simp only [List.getElem?_toArray, List.getElem?_cons_succ, List.getElem?_cons_zero]; rfl) (fun K hK => ?_) (AllReadyH.cons (o := _) (by simp only [List.getElem?_toArray, List.getElem?_cons_succ, List.getElem?_cons_zero]; rfl) (fun K hK => ?_) (AllReadyH.nil))
    · go_simp
      (with_reducible refine (HCB.out _ hHeld.1).mono ?_)
      rintro e u2 ⟨he, hw⟩; obtain rfl := he
      have hb : Below u1.heap.size u1 u2 := by rw [hw]; exact al_below _ _
      replace KO := Lib.hid (KO.out.below hb KO.out.lt)
      have KU : Hid (Bk u2 u1.heap.size 5 (bytesV s2)) := Lib.hid (by rw [hw]; exact Bk.new _ _ _)
      have LU : Hid (w.heap.size ≤ u1.heap.size) := Lib.hid hHeld.1.size
      have hS : Below w.heap.size w u2 ∧ Bk u2 w.heap.size 29 [.int .i64 j, .int .i64 (inn : Int), .int .i64 (gn : Int), .int .i64 p] ∧ Bk u2 (w.heap.size + 1) 60 [.slice none 0 0, .slice none 0 0, .slice none 0 0, .slice none 0 0] ∧ (u2).ownsRow w.heap.size 68 2 (.slice A6 ec.length c6) ec.length (Intern.rowsV ec) := ⟨hHeld.1.trans (hb.mono hHeld.1.size), hHeld.2.1.below hb hHeld.2.1.lt, hHeld.2.2.1.below hb hHeld.2.2.1.lt, own_below hHeld.2.2.2 hb⟩
      clear hw
      clear hb
      go_simp
      refine hK.out _ _ hS (fun hHeld2 => ?_)
      clear hK K hHeld hS
      have hHeld := hHeld2
      clear hHeld2
      try simp only [Act.put, List.setIfInBounds_toArray, List.set_cons_zero, List.set_cons_succ]
      refine wpAnyH_ready (rs := [14, 16]) (by kernel_rfl) (by simp) ?_
      refine AllReadyH.cons (o := _) (by simp only [List.getElem?_toArray, List.getElem?_cons_succ, List.getElem?_cons_zero]; rfl) (fun K hK => ?_) (AllReadyH.cons (o := _) (by simp only [List.getElem?_toArray, List.getElem?_cons_succ, List.getElem?_cons_zero]; rfl) (fun K hK => ?_) (AllReadyH.nil))
      · go_simp
        (with_reducible refine (HTI.out _ hHeld.1).mono ?_)
        rintro e u3 ⟨v7, he, hv7, hb⟩; obtain rfl := he
        obtain ⟨AI, cI, hv⟩ := own_slice_any hv7; subst hv
        replace KO := Lib.hid (KO.out.below hb KO.out.lt)
        replace KU := Lib.hid (KU.out.below hb KU.out.lt)
        have KI := Lib.hid (own_mono hv7 hHeld.1.size)
        have hS : Below w.heap.size w u3 ∧ Bk u3 w.heap.size 29 [.int .i64 j, .int .i64 (inn : Int), .int .i64 (gn : Int), .int .i64 p] ∧ Bk u3 (w.heap.size + 1) 60 [.slice none 0 0, .slice none 0 0, .slice none 0 0, .slice none 0 0] ∧ (u3).ownsRow w.heap.size 68 2 (.slice A6 ec.length c6) ec.length (Intern.rowsV ec) := ⟨hHeld.1.trans (hb.mono hHeld.1.size), hHeld.2.1.below hb hHeld.2.1.lt, hHeld.2.2.1.below hb hHeld.2.2.1.lt, own_below hHeld.2.2.2 hb⟩
        clear hv7
        clear hb
        go_simp
        refine hK.out _ _ hS (fun hHeld2 => ?_)
        clear hK K hHeld hS
        have hHeld := hHeld2
        clear hHeld2
        try simp only [Act.put, List.setIfInBounds_toArray, List.set_cons_zero, List.set_cons_succ]
        refine wpAnyH_take (i := 15) (oi := _) (v := ?_) (by simp only [List.getElem?_toArray, List.getElem?_cons_succ, List.getElem?_cons_zero]; rfl) (by kernel_rfl) (by kernel_rfl) (by kernel_rfl) (by exact fun _ _ _ h => h) (Or.inl ⟨by rfl, ?hyx315⟩) (by exact hHeld) ?rex315
        case hyx315 => (intro u hu; clear hu; go_simp <;> with_reducible rfl)
        try simp only [Act.put, List.setIfInBounds_toArray, List.set_cons_zero, List.set_cons_succ]
        refine wpAnyH_ready (rs := [16]) (by kernel_rfl) (by simp) ?_
        refine AllReadyH.cons (o := _) (by simp only [List.getElem?_toArray, List.getElem?_cons_succ, List.getElem?_cons_zero]; rfl) (fun K hK => ?_) (AllReadyH.nil)
        go_simp
        obtain ⟨u4, hw⟩ : ∃ u, u = u3.alloc (.cells #[.slice none 0 0, .slice none 0 0, .slice none 0 0, .slice none 0 0] 60) := ⟨_, rfl⟩
        rw [← hw]
        have hb : Below u3.heap.size u3 u4 := by rw [hw]; exact al_below _ _
        replace KO := Lib.hid (KO.out.below hb KO.out.lt)
        replace KU := Lib.hid (KU.out.below hb KU.out.lt)
        replace KI := Lib.hid (own_below KI.out hb)
        have KM : Hid (Bk u4 u3.heap.size 60 [.slice none 0 0, .slice none 0 0, .slice none 0 0, .slice none 0 0]) := Lib.hid (by rw [hw]; exact Bk.new _ _ _)
        have LM : Hid (w.heap.size + 1 < u3.heap.size) := Lib.hid hHeld.2.2.1.lt
        have hS : Below w.heap.size w u4 ∧ Bk u4 w.heap.size 29 [.int .i64 j, .int .i64 (inn : Int), .int .i64 (gn : Int), .int .i64 p] ∧ Bk u4 (w.heap.size + 1) 60 [.slice none 0 0, .slice none 0 0, .slice none 0 0, .slice none 0 0] ∧ (u4).ownsRow w.heap.size 68 2 (.slice A6 ec.length c6) ec.length (Intern.rowsV ec) := ⟨hHeld.1.trans (hb.mono hHeld.1.size), hHeld.2.1.below hb hHeld.2.1.lt, hHeld.2.2.1.below hb hHeld.2.2.1.lt, own_below hHeld.2.2.2 hb⟩
        clear hw
        clear hb
        refine hK.out _ _ hS (fun hHeld2 => ?_)
        clear hK K hHeld hS
        have hHeld := hHeld2
        clear hHeld2
        try simp only [Act.put, List.setIfInBounds_toArray, List.set_cons_zero, List.set_cons_succ]
        obtain ⟨r0, r1, r2, r3⟩ := four_cells KM.out
        obtain ⟨f0, f1, f2, f3⟩ := four_frozen KM.out
        have hlz := KM.out.lt
        have hown : OwnM u4 w.heap.size (⟨A6, c6, some ⟨u0.heap.size, 0, none⟩, gn, some ⟨u1.heap.size, 0, none⟩, 64, AI, cI⟩ : Mem) C := ⟨by rw [HC0.out]; exact hHeld.2.2.2, by rw [HN1.out, HC1.out]; exact bk_own KO.out LO.out (by rw [Inode.length_intsV, ← HC1.out, HN1.out, Nat.mul_one]) rfl (by show gn ≤ maxLen; unfold maxLen; have := HI.out; omega), by rw [HN2.out, HC2.out]; exact bk_own KU.out LU.out (by rw [length_bytesV, HL2.out]) rfl (by show 64 ≤ maxLen; decide), by rw [HN3.out, HC3.out]; exact KI.out⟩
        have hsta := Sta.put hHeld.2.1 hHeld.2.2.1 KM.out hown hHeld.1 LM.out
        simp only [HC0.out, HN1.out, HN2.out, HN3.out] at hsta
        refine wpAnyH_ready (rs := [17]) (by kernel_rfl) (by simp) ?_
        refine AllReadyH.cons (o := _) (by simp only [List.getElem?_toArray, List.getElem?_cons_succ, List.getElem?_cons_zero]; rfl) (fun K hK => ?_) AllReadyH.nil
        go_simp
        change K _ (put4 u4 u3.heap.size (.slice A6 ec.length c6) (.slice (some ⟨u0.heap.size, 0, none⟩) gn gn) (.slice (some ⟨u1.heap.size, 0, none⟩) 64 64) (.slice AI inn cI))
        have HSta := Lib.hid hsta
        have hS : Below w.heap.size w (put4 u4 u3.heap.size (.slice A6 ec.length c6) (.slice (some ⟨u0.heap.size, 0, none⟩) gn gn) (.slice (some ⟨u1.heap.size, 0, none⟩) 64 64) (.slice AI inn cI)) ∧ Bk (put4 u4 u3.heap.size (.slice A6 ec.length c6) (.slice (some ⟨u0.heap.size, 0, none⟩) gn gn) (.slice (some ⟨u1.heap.size, 0, none⟩) 64 64) (.slice AI inn cI)) w.heap.size 29 [.int .i64 j, .int .i64 (inn : Int), .int .i64 (gn : Int), .int .i64 p] ∧ Bk (put4 u4 u3.heap.size (.slice A6 ec.length c6) (.slice (some ⟨u0.heap.size, 0, none⟩) gn gn) (.slice (some ⟨u1.heap.size, 0, none⟩) 64 64) (.slice AI inn cI)) (w.heap.size + 1) 60 [.slice none 0 0, .slice none 0 0, .slice none 0 0, .slice none 0 0] ∧ ((put4 u4 u3.heap.size (.slice A6 ec.length c6) (.slice (some ⟨u0.heap.size, 0, none⟩) gn gn) (.slice (some ⟨u1.heap.size, 0, none⟩) 64 64) (.slice AI inn cI))).ownsRow w.heap.size 68 2 (.slice A6 ec.length c6) ec.length (Intern.rowsV ec) := ⟨HSta.out.below, HSta.out.geo, HSta.out.res, by have := HSta.out.own.rows; rw [HC0.out] at this; exact this⟩
        refine hK.out _ _ hS (fun _ => ?_)
        clear hK K hS hsta hown hHeld r0 r1 r2 r3 f0 f1 f2 f3 hlz
        refine wpAnyH_done (by kernel_rfl) ?_ _
        change Exit.then _ _ _ _ (put4 u4 u3.heap.size (.slice A6 ec.length c6) (.slice (some ⟨u0.heap.size, 0, none⟩) gn gn) (.slice (some ⟨u1.heap.size, 0, none⟩) 64 64) (.slice AI inn cI))
        generalize put4 u4 u3.heap.size (.slice A6 ec.length c6) (.slice (some ⟨u0.heap.size, 0, none⟩) gn gn) (.slice (some ⟨u1.heap.size, 0, none⟩) 64 64) (.slice AI inn cI) = V at *
        obtain ⟨g0, g1, g2, g3⟩ := four_cells HSta.out.geo
        obtain ⟨m0, m1, m2, m3⟩ := four_cells HSta.out.cur
        simp only [HC0.out, HN1.out, HN2.out, HN3.out] at m0 m1 m2 m3
        have hly := HSta.out.own.lies
        have HLY : Hid (∀ u : World, Below V.heap.size V u → Calls Tryz.prog 55 #[.agg #[.int .i64 j, .int .i64 (inn : Int), .int .i64 (gn : Int), .int .i64 p], .agg #[.slice A6 ec.length c6, (.slice (some ⟨u0.heap.size, 0, none⟩) gn gn), (.slice (some ⟨u1.heap.size, 0, none⟩) 64 64), .slice AI inn cI]] u fun e w' => HandsL u (layM ⟨j, (inn : Int), (gn : Int), p⟩ C) e w') := Lib.hid (fun u hu =>
          lay_in j inn gn p C HCO.out _ _ _ _ ec.length c6 gn gn 64 64 inn cI u (by rw [HC0.out]) HN1.out HN2.out HN3.out ((hly.below hu).more hu.size) (by have := HI.out; omega))
        clear hly
        by_cases hRt : Right ⟨j, (inn : Int), (gn : Int), p⟩ C
        rotate_left
        · have HBAD := Lib.hid (HR.out.symm.trans (tak_bad (G := ⟨j, (inn : Int), (gn : Int), p⟩) (l := l) (by rw [HCC.out]; exact hRt)))
          rw [lay_no hRt] at HLY
          clear hRt
          go_wp2_with (go_at_call 55; (with_reducible refine (HLY.out _ (Below.refl _ _)).mono ?_); rintro e w12 ⟨v12, L12, he, -, hb⟩; obtain rfl := he; have HS12 := Lib.hid (HSta.out.later hb); clear hb m0 m1 m2 m3 g0 g1 g2 g3; obtain ⟨m0, m1, m2, m3⟩ := four_cells HS12.out.res; obtain ⟨f0, f1, f2, f3⟩ := four_frozen HS12.out.res; have hlt := HS12.out.res.lt)
          exact pbad_end HBAD.out HS12.out.res rfl rfl HS12.out.below
        rw [lay_yes hRt] at HLY
        have HRT := Lib.hid hRt
        obtain ⟨sn, hsn⟩ : ∃ sn, (secs C).length = sn := ⟨_, rfl⟩
        have HSN := Lib.hid hsn
        clear hRt hsn
        by_cases heq : l = secs C
        rotate_left
        · have HBAD := Lib.hid (HR.out.symm.trans (tak_not (G := ⟨j, (inn : Int), (gn : Int), p⟩) (l := l) (by rw [HCC.out]; exact Ne.symm heq)))
          have hb0 : (l == secs C) = false := by simpa using heq
          have HB0 := Lib.hid hb0
          clear heq hb0
          go_wp2_with (first
            | (go_at_call 55; (with_reducible refine (HLY.out _ (Below.refl _ _)).mono ?_); rintro e w12 hh; obtain ⟨A12, c12, L12, he, -, -, -, hsa, hb⟩ := hh.got; rw [HSN.out] at he; obtain rfl := he; have HS12 := Lib.hid (HSta.out.later hb); have HO12 := Lib.hid hsa; clear hb hsa m0 m1 m2 m3 g0 g1 g2 g3)
            | (go_at_call 125; (with_reducible refine (eqsec_any l (secs C) _ _ n sn _ _ L L12 _ HL.out HSN.out ((HS.out.below HS12.out.below).more HS12.out.below.size) HO12.out hn).mono ?_); rintro e w13 ⟨he, hw⟩; rw [HB0.out] at he; obtain rfl := he; subst hw; obtain ⟨m0, m1, m2, m3⟩ := four_cells HS12.out.res; obtain ⟨f0, f1, f2, f3⟩ := four_frozen HS12.out.res; have hlt := HS12.out.res.lt))
          exact pbad_end HBAD.out HS12.out.res rfl rfl HS12.out.below
        have HGOOD := Lib.hid (HR.out.symm.trans (tak_cand (G := ⟨j, (inn : Int), (gn : Int), p⟩) (l := l) (cand_err (by rw [HCC.out]; exact HRT.out)) (by rw [HCC.out]; exact HRT.out) (by rw [HCC.out]; exact heq.symm)))
        rw [HCC.out] at HGOOD
        have hb0 : (l == secs C) = true := by simpa using heq
        have HB0 := Lib.hid hb0
        clear heq hb0
        go_wp2_with (first
          | (go_at_call 55; (with_reducible refine (HLY.out _ (Below.refl _ _)).mono ?_); rintro e w12 hh; obtain ⟨A12, c12, L12, he, -, -, -, hsa, hb⟩ := hh.got; rw [HSN.out] at he; obtain rfl := he; have HS12 := Lib.hid (HSta.out.later hb); have HO12 := Lib.hid hsa; clear hb hsa m0 m1 m2 m3 g0 g1 g2 g3)
          | (go_at_call 125; (with_reducible refine (eqsec_any l (secs C) _ _ n sn _ _ L L12 _ HL.out HSN.out ((HS.out.below HS12.out.below).more HS12.out.below.size) HO12.out hn).mono ?_); rintro e w13 ⟨he, hw⟩; rw [HB0.out] at he; obtain rfl := he; subst hw; obtain ⟨m0, m1, m2, m3⟩ := four_cells HS12.out.cur; simp only [HC0.out, HN1.out, HN2.out, HN3.out] at m0 m1 m2 m3; obtain ⟨r0, r1, r2, r3⟩ := four_cells HS12.out.res; obtain ⟨f0, f1, f2, f3⟩ := four_frozen HS12.out.res; have hlt := HS12.out.res.lt))
        exact pgood_end (x := ⟨A6, c6, some ⟨u0.heap.size, 0, none⟩, gn, some ⟨u1.heap.size, 0, none⟩, 64, AI, cI⟩) HGOOD.out (by rw [HC0.out]) HN1.out HN2.out HN3.out HS12.out.res rfl rfl HS12.out.own HS12.out.below
      · go_simp
        obtain ⟨u5, hw⟩ : ∃ u, u = u2.alloc (.cells #[.slice none 0 0, .slice none 0 0, .slice none 0 0, .slice none 0 0] 60) := ⟨_, rfl⟩
        rw [← hw]
        have hb : Below u2.heap.size u2 u5 := by rw [hw]; exact al_below _ _
        replace KO := Lib.hid (KO.out.below hb KO.out.lt)
        replace KU := Lib.hid (KU.out.below hb KU.out.lt)
        have KM : Hid (Bk u5 u2.heap.size 60 [.slice none 0 0, .slice none 0 0, .slice none 0 0, .slice none 0 0]) := Lib.hid (by rw [hw]; exact Bk.new _ _ _)
        have LM : Hid (w.heap.size + 1 < u2.heap.size) := Lib.hid hHeld.2.2.1.lt
        have hS : Below w.heap.size w u5 ∧ Bk u5 w.heap.size 29 [.int .i64 j, .int .i64 (inn : Int), .int .i64 (gn : Int), .int .i64 p] ∧ Bk u5 (w.heap.size + 1) 60 [.slice none 0 0, .slice none 0 0, .slice none 0 0, .slice none 0 0] ∧ (u5).ownsRow w.heap.size 68 2 (.slice A6 ec.length c6) ec.length (Intern.rowsV ec) := ⟨hHeld.1.trans (hb.mono hHeld.1.size), hHeld.2.1.below hb hHeld.2.1.lt, hHeld.2.2.1.below hb hHeld.2.2.1.lt, own_below hHeld.2.2.2 hb⟩
        clear hw
        clear hb
        refine hK.out _ _ hS (fun hHeld2 => ?_)
        clear hK K hHeld hS
        have hHeld := hHeld2
        clear hHeld2
        try simp only [Act.put, List.setIfInBounds_toArray, List.set_cons_zero, List.set_cons_succ]
        refine wpAnyH_ready (rs := [14]) (by kernel_rfl) (by simp) ?_
        refine AllReadyH.cons (o := _) (by simp only [List.getElem?_toArray, List.getElem?_cons_succ, List.getElem?_cons_zero]; rfl) (fun K hK => ?_) (AllReadyH.nil)
        go_simp
        (with_reducible refine (HTI.out _ hHeld.1).mono ?_)
        rintro e u6 ⟨v7, he, hv7, hb⟩; obtain rfl := he
        obtain ⟨AI, cI, hv⟩ := own_slice_any hv7; subst hv
        replace KO := Lib.hid (KO.out.below hb KO.out.lt)
        replace KU := Lib.hid (KU.out.below hb KU.out.lt)
        replace KM := Lib.hid (KM.out.below hb KM.out.lt)
        have KI := Lib.hid (own_mono hv7 hHeld.1.size)
        have hS : Below w.heap.size w u6 ∧ Bk u6 w.heap.size 29 [.int .i64 j, .int .i64 (inn : Int), .int .i64 (gn : Int), .int .i64 p] ∧ Bk u6 (w.heap.size + 1) 60 [.slice none 0 0, .slice none 0 0, .slice none 0 0, .slice none 0 0] ∧ (u6).ownsRow w.heap.size 68 2 (.slice A6 ec.length c6) ec.length (Intern.rowsV ec) := ⟨hHeld.1.trans (hb.mono hHeld.1.size), hHeld.2.1.below hb hHeld.2.1.lt, hHeld.2.2.1.below hb hHeld.2.2.1.lt, own_below hHeld.2.2.2 hb⟩
        clear hv7
        clear hb
        go_simp
        refine hK.out _ _ hS (fun hHeld2 => ?_)
        clear hK K hHeld hS
        have hHeld := hHeld2
        clear hHeld2
        try simp only [Act.put, List.setIfInBounds_toArray, List.set_cons_zero, List.set_cons_succ]
        refine wpAnyH_take (i := 15) (oi := _) (v := ?_) (by simp only [List.getElem?_toArray, List.getElem?_cons_succ, List.getElem?_cons_zero]; rfl) (by kernel_rfl) (by kernel_rfl) (by kernel_rfl) (by exact fun _ _ _ h => h) (Or.inl ⟨by rfl, ?hyx615⟩) (by exact hHeld) ?rex615
        case hyx615 => (intro u hu; clear hu; go_simp <;> with_reducible rfl)
        try simp only [Act.put, List.setIfInBounds_toArray, List.set_cons_zero, List.set_cons_succ]
        obtain ⟨r0, r1, r2, r3⟩ := four_cells KM.out
        obtain ⟨f0, f1, f2, f3⟩ := four_frozen KM.out
        have hlz := KM.out.lt
        have hown : OwnM u6 w.heap.size (⟨A6, c6, some ⟨u0.heap.size, 0, none⟩, gn, some ⟨u1.heap.size, 0, none⟩, 64, AI, cI⟩ : Mem) C := ⟨by rw [HC0.out]; exact hHeld.2.2.2, by rw [HN1.out, HC1.out]; exact bk_own KO.out LO.out (by rw [Inode.length_intsV, ← HC1.out, HN1.out, Nat.mul_one]) rfl (by show gn ≤ maxLen; unfold maxLen; have := HI.out; omega), by rw [HN2.out, HC2.out]; exact bk_own KU.out LU.out (by rw [length_bytesV, HL2.out]) rfl (by show 64 ≤ maxLen; decide), by rw [HN3.out, HC3.out]; exact KI.out⟩
        have hsta := Sta.put hHeld.2.1 hHeld.2.2.1 KM.out hown hHeld.1 LM.out
        simp only [HC0.out, HN1.out, HN2.out, HN3.out] at hsta
        refine wpAnyH_ready (rs := [17]) (by kernel_rfl) (by simp) ?_
        refine AllReadyH.cons (o := _) (by simp only [List.getElem?_toArray, List.getElem?_cons_succ, List.getElem?_cons_zero]; rfl) (fun K hK => ?_) AllReadyH.nil
        go_simp
        change K _ (put4 u6 u2.heap.size (.slice A6 ec.length c6) (.slice (some ⟨u0.heap.size, 0, none⟩) gn gn) (.slice (some ⟨u1.heap.size, 0, none⟩) 64 64) (.slice AI inn cI))
        have HSta := Lib.hid hsta
        have hS : Below w.heap.size w (put4 u6 u2.heap.size (.slice A6 ec.length c6) (.slice (some ⟨u0.heap.size, 0, none⟩) gn gn) (.slice (some ⟨u1.heap.size, 0, none⟩) 64 64) (.slice AI inn cI)) ∧ Bk (put4 u6 u2.heap.size (.slice A6 ec.length c6) (.slice (some ⟨u0.heap.size, 0, none⟩) gn gn) (.slice (some ⟨u1.heap.size, 0, none⟩) 64 64) (.slice AI inn cI)) w.heap.size 29 [.int .i64 j, .int .i64 (inn : Int), .int .i64 (gn : Int), .int .i64 p] ∧ Bk (put4 u6 u2.heap.size (.slice A6 ec.length c6) (.slice (some ⟨u0.heap.size, 0, none⟩) gn gn) (.slice (some ⟨u1.heap.size, 0, none⟩) 64 64) (.slice AI inn cI)) (w.heap.size + 1) 60 [.slice none 0 0, .slice none 0 0, .slice none 0 0, .slice none 0 0] ∧ ((put4 u6 u2.heap.size (.slice A6 ec.length c6) (.slice (some ⟨u0.heap.size, 0, none⟩) gn gn) (.slice (some ⟨u1.heap.size, 0, none⟩) 64 64) (.slice AI inn cI))).ownsRow w.heap.size 68 2 (.slice A6 ec.length c6) ec.length (Intern.rowsV ec) := ⟨HSta.out.below, HSta.out.geo, HSta.out.res, by have := HSta.out.own.rows; rw [HC0.out] at this; exact this⟩
        refine hK.out _ _ hS (fun _ => ?_)
        clear hK K hS hsta hown hHeld r0 r1 r2 r3 f0 f1 f2 f3 hlz
        refine wpAnyH_done (by kernel_rfl) ?_ _
        change Exit.then _ _ _ _ (put4 u6 u2.heap.size (.slice A6 ec.length c6) (.slice (some ⟨u0.heap.size, 0, none⟩) gn gn) (.slice (some ⟨u1.heap.size, 0, none⟩) 64 64) (.slice AI inn cI))
        generalize put4 u6 u2.heap.size (.slice A6 ec.length c6) (.slice (some ⟨u0.heap.size, 0, none⟩) gn gn) (.slice (some ⟨u1.heap.size, 0, none⟩) 64 64) (.slice AI inn cI) = V at *
        obtain ⟨g0, g1, g2, g3⟩ := four_cells HSta.out.geo
        obtain ⟨m0, m1, m2, m3⟩ := four_cells HSta.out.cur
        simp only [HC0.out, HN1.out, HN2.out, HN3.out] at m0 m1 m2 m3
        have hly := HSta.out.own.lies
        have HLY : Hid (∀ u : World, Below V.heap.size V u → Calls Tryz.prog 55 #[.agg #[.int .i64 j, .int .i64 (inn : Int), .int .i64 (gn : Int), .int .i64 p], .agg #[.slice A6 ec.length c6, (.slice (some ⟨u0.heap.size, 0, none⟩) gn gn), (.slice (some ⟨u1.heap.size, 0, none⟩) 64 64), .slice AI inn cI]] u fun e w' => HandsL u (layM ⟨j, (inn : Int), (gn : Int), p⟩ C) e w') := Lib.hid (fun u hu =>
          lay_in j inn gn p C HCO.out _ _ _ _ ec.length c6 gn gn 64 64 inn cI u (by rw [HC0.out]) HN1.out HN2.out HN3.out ((hly.below hu).more hu.size) (by have := HI.out; omega))
        clear hly
        by_cases hRt : Right ⟨j, (inn : Int), (gn : Int), p⟩ C
        rotate_left
        · have HBAD := Lib.hid (HR.out.symm.trans (tak_bad (G := ⟨j, (inn : Int), (gn : Int), p⟩) (l := l) (by rw [HCC.out]; exact hRt)))
          rw [lay_no hRt] at HLY
          clear hRt
          go_wp2_with (go_at_call 55; (with_reducible refine (HLY.out _ (Below.refl _ _)).mono ?_); rintro e w12 ⟨v12, L12, he, -, hb⟩; obtain rfl := he; have HS12 := Lib.hid (HSta.out.later hb); clear hb m0 m1 m2 m3 g0 g1 g2 g3; obtain ⟨m0, m1, m2, m3⟩ := four_cells HS12.out.res; obtain ⟨f0, f1, f2, f3⟩ := four_frozen HS12.out.res; have hlt := HS12.out.res.lt)
          exact pbad_end HBAD.out HS12.out.res rfl rfl HS12.out.below
        rw [lay_yes hRt] at HLY
        have HRT := Lib.hid hRt
        obtain ⟨sn, hsn⟩ : ∃ sn, (secs C).length = sn := ⟨_, rfl⟩
        have HSN := Lib.hid hsn
        clear hRt hsn
        by_cases heq : l = secs C
        rotate_left
        · have HBAD := Lib.hid (HR.out.symm.trans (tak_not (G := ⟨j, (inn : Int), (gn : Int), p⟩) (l := l) (by rw [HCC.out]; exact Ne.symm heq)))
          have hb0 : (l == secs C) = false := by simpa using heq
          have HB0 := Lib.hid hb0
          clear heq hb0
          go_wp2_with (first
            | (go_at_call 55; (with_reducible refine (HLY.out _ (Below.refl _ _)).mono ?_); rintro e w12 hh; obtain ⟨A12, c12, L12, he, -, -, -, hsa, hb⟩ := hh.got; rw [HSN.out] at he; obtain rfl := he; have HS12 := Lib.hid (HSta.out.later hb); have HO12 := Lib.hid hsa; clear hb hsa m0 m1 m2 m3 g0 g1 g2 g3)
            | (go_at_call 125; (with_reducible refine (eqsec_any l (secs C) _ _ n sn _ _ L L12 _ HL.out HSN.out ((HS.out.below HS12.out.below).more HS12.out.below.size) HO12.out hn).mono ?_); rintro e w13 ⟨he, hw⟩; rw [HB0.out] at he; obtain rfl := he; subst hw; obtain ⟨m0, m1, m2, m3⟩ := four_cells HS12.out.res; obtain ⟨f0, f1, f2, f3⟩ := four_frozen HS12.out.res; have hlt := HS12.out.res.lt))
          exact pbad_end HBAD.out HS12.out.res rfl rfl HS12.out.below
        have HGOOD := Lib.hid (HR.out.symm.trans (tak_cand (G := ⟨j, (inn : Int), (gn : Int), p⟩) (l := l) (cand_err (by rw [HCC.out]; exact HRT.out)) (by rw [HCC.out]; exact HRT.out) (by rw [HCC.out]; exact heq.symm)))
        rw [HCC.out] at HGOOD
        have hb0 : (l == secs C) = true := by simpa using heq
        have HB0 := Lib.hid hb0
        clear heq hb0
        go_wp2_with (first
          | (go_at_call 55; (with_reducible refine (HLY.out _ (Below.refl _ _)).mono ?_); rintro e w12 hh; obtain ⟨A12, c12, L12, he, -, -, -, hsa, hb⟩ := hh.got; rw [HSN.out] at he; obtain rfl := he; have HS12 := Lib.hid (HSta.out.later hb); have HO12 := Lib.hid hsa; clear hb hsa m0 m1 m2 m3 g0 g1 g2 g3)
          | (go_at_call 125; (with_reducible refine (eqsec_any l (secs C) _ _ n sn _ _ L L12 _ HL.out HSN.out ((HS.out.below HS12.out.below).more HS12.out.below.size) HO12.out hn).mono ?_); rintro e w13 ⟨he, hw⟩; rw [HB0.out] at he; obtain rfl := he; subst hw; obtain ⟨m0, m1, m2, m3⟩ := four_cells HS12.out.cur; simp only [HC0.out, HN1.out, HN2.out, HN3.out] at m0 m1 m2 m3; obtain ⟨r0, r1, r2, r3⟩ := four_cells HS12.out.res; obtain ⟨f0, f1, f2, f3⟩ := four_frozen HS12.out.res; have hlt := HS12.out.res.lt))
        exact pgood_end (x := ⟨A6, c6, some ⟨u0.heap.size, 0, none⟩, gn, some ⟨u1.heap.size, 0, none⟩, 64, AI, cI⟩) HGOOD.out (by rw [HC0.out]) HN1.out HN2.out HN3.out HS12.out.res rfl rfl HS12.out.own HS12.out.below
    · go_simp
      obtain ⟨u7, hw⟩ : ∃ u, u = u1.alloc (.cells #[.slice none 0 0, .slice none 0 0, .slice none 0 0, .slice none 0 0] 60) := ⟨_, rfl⟩
      rw [← hw]
      have hb : Below u1.heap.size u1 u7 := by rw [hw]; exact al_below _ _
      replace KO := Lib.hid (KO.out.below hb KO.out.lt)
      have KM : Hid (Bk u7 u1.heap.size 60 [.slice none 0 0, .slice none 0 0, .slice none 0 0, .slice none 0 0]) := Lib.hid (by rw [hw]; exact Bk.new _ _ _)
      have LM : Hid (w.heap.size + 1 < u1.heap.size) := Lib.hid hHeld.2.2.1.lt
      have hS : Below w.heap.size w u7 ∧ Bk u7 w.heap.size 29 [.int .i64 j, .int .i64 (inn : Int), .int .i64 (gn : Int), .int .i64 p] ∧ Bk u7 (w.heap.size + 1) 60 [.slice none 0 0, .slice none 0 0, .slice none 0 0, .slice none 0 0] ∧ (u7).ownsRow w.heap.size 68 2 (.slice A6 ec.length c6) ec.length (Intern.rowsV ec) := ⟨hHeld.1.trans (hb.mono hHeld.1.size), hHeld.2.1.below hb hHeld.2.1.lt, hHeld.2.2.1.below hb hHeld.2.2.1.lt, own_below hHeld.2.2.2 hb⟩
      clear hw
      clear hb
      refine hK.out _ _ hS (fun hHeld2 => ?_)
      clear hK K hHeld hS
      have hHeld := hHeld2
      clear hHeld2
      try simp only [Act.put, List.setIfInBounds_toArray, List.set_cons_zero, List.set_cons_succ]
      refine wpAnyH_ready (rs := [11]) (by kernel_rfl) (by simp) ?_
      refine AllReadyH.cons (o := _) (by simp only [List.getElem?_toArray, List.getElem?_cons_succ, List.getElem?_cons_zero]; rfl) (fun K hK => ?_) (AllReadyH.nil)
      go_simp
      (with_reducible refine (HCB.out _ hHeld.1).mono ?_)
      rintro e u8 ⟨he, hw⟩; obtain rfl := he
      have hb : Below u7.heap.size u7 u8 := by rw [hw]; exact al_below _ _
      replace KO := Lib.hid (KO.out.below hb KO.out.lt)
      replace KM := Lib.hid (KM.out.below hb KM.out.lt)
      have KU : Hid (Bk u8 u7.heap.size 5 (bytesV s2)) := Lib.hid (by rw [hw]; exact Bk.new _ _ _)
      have LU : Hid (w.heap.size ≤ u7.heap.size) := Lib.hid hHeld.1.size
      have hS : Below w.heap.size w u8 ∧ Bk u8 w.heap.size 29 [.int .i64 j, .int .i64 (inn : Int), .int .i64 (gn : Int), .int .i64 p] ∧ Bk u8 (w.heap.size + 1) 60 [.slice none 0 0, .slice none 0 0, .slice none 0 0, .slice none 0 0] ∧ (u8).ownsRow w.heap.size 68 2 (.slice A6 ec.length c6) ec.length (Intern.rowsV ec) := ⟨hHeld.1.trans (hb.mono hHeld.1.size), hHeld.2.1.below hb hHeld.2.1.lt, hHeld.2.2.1.below hb hHeld.2.2.1.lt, own_below hHeld.2.2.2 hb⟩
      clear hw
      clear hb
      go_simp
      refine hK.out _ _ hS (fun hHeld2 => ?_)
      clear hK K hHeld hS
      have hHeld := hHeld2
      clear hHeld2
      try simp only [Act.put, List.setIfInBounds_toArray, List.set_cons_zero, List.set_cons_succ]
      refine wpAnyH_ready (rs := [14]) (by kernel_rfl) (by simp) ?_
      refine AllReadyH.cons (o := _) (by simp only [List.getElem?_toArray, List.getElem?_cons_succ, List.getElem?_cons_zero]; rfl) (fun K hK => ?_) (AllReadyH.nil)
      go_simp
      (with_reducible refine (HTI.out _ hHeld.1).mono ?_)
      rintro e u9 ⟨v7, he, hv7, hb⟩; obtain rfl := he
      obtain ⟨AI, cI, hv⟩ := own_slice_any hv7; subst hv
      replace KO := Lib.hid (KO.out.below hb KO.out.lt)
      replace KU := Lib.hid (KU.out.below hb KU.out.lt)
      replace KM := Lib.hid (KM.out.below hb KM.out.lt)
      have KI := Lib.hid (own_mono hv7 hHeld.1.size)
      have hS : Below w.heap.size w u9 ∧ Bk u9 w.heap.size 29 [.int .i64 j, .int .i64 (inn : Int), .int .i64 (gn : Int), .int .i64 p] ∧ Bk u9 (w.heap.size + 1) 60 [.slice none 0 0, .slice none 0 0, .slice none 0 0, .slice none 0 0] ∧ (u9).ownsRow w.heap.size 68 2 (.slice A6 ec.length c6) ec.length (Intern.rowsV ec) := ⟨hHeld.1.trans (hb.mono hHeld.1.size), hHeld.2.1.below hb hHeld.2.1.lt, hHeld.2.2.1.below hb hHeld.2.2.1.lt, own_below hHeld.2.2.2 hb⟩
      clear hv7
      clear hb
      go_simp
      refine hK.out _ _ hS (fun hHeld2 => ?_)
      clear hK K hHeld hS
      have hHeld := hHeld2
      clear hHeld2
      try simp only [Act.put, List.setIfInBounds_toArray, List.set_cons_zero, List.set_cons_succ]
      refine wpAnyH_take (i := 15) (oi := _) (v := ?_) (by simp only [List.getElem?_toArray, List.getElem?_cons_succ, List.getElem?_cons_zero]; rfl) (by kernel_rfl) (by kernel_rfl) (by kernel_rfl) (by exact fun _ _ _ h => h) (Or.inl ⟨by rfl, ?hyx915⟩) (by exact hHeld) ?rex915
      case hyx915 => (intro u hu; clear hu; go_simp <;> with_reducible rfl)
      try simp only [Act.put, List.setIfInBounds_toArray, List.set_cons_zero, List.set_cons_succ]
      obtain ⟨r0, r1, r2, r3⟩ := four_cells KM.out
      obtain ⟨f0, f1, f2, f3⟩ := four_frozen KM.out
      have hlz := KM.out.lt
      have hown : OwnM u9 w.heap.size (⟨A6, c6, some ⟨u0.heap.size, 0, none⟩, gn, some ⟨u7.heap.size, 0, none⟩, 64, AI, cI⟩ : Mem) C := ⟨by rw [HC0.out]; exact hHeld.2.2.2, by rw [HN1.out, HC1.out]; exact bk_own KO.out LO.out (by rw [Inode.length_intsV, ← HC1.out, HN1.out, Nat.mul_one]) rfl (by show gn ≤ maxLen; unfold maxLen; have := HI.out; omega), by rw [HN2.out, HC2.out]; exact bk_own KU.out LU.out (by rw [length_bytesV, HL2.out]) rfl (by show 64 ≤ maxLen; decide), by rw [HN3.out, HC3.out]; exact KI.out⟩
      have hsta := Sta.put hHeld.2.1 hHeld.2.2.1 KM.out hown hHeld.1 LM.out
      simp only [HC0.out, HN1.out, HN2.out, HN3.out] at hsta
      refine wpAnyH_ready (rs := [17]) (by kernel_rfl) (by simp) ?_
      refine AllReadyH.cons (o := _) (by simp only [List.getElem?_toArray, List.getElem?_cons_succ, List.getElem?_cons_zero]; rfl) (fun K hK => ?_) AllReadyH.nil
      go_simp
      change K _ (put4 u9 u1.heap.size (.slice A6 ec.length c6) (.slice (some ⟨u0.heap.size, 0, none⟩) gn gn) (.slice (some ⟨u7.heap.size, 0, none⟩) 64 64) (.slice AI inn cI))
      have HSta := Lib.hid hsta
      have hS : Below w.heap.size w (put4 u9 u1.heap.size (.slice A6 ec.length c6) (.slice (some ⟨u0.heap.size, 0, none⟩) gn gn) (.slice (some ⟨u7.heap.size, 0, none⟩) 64 64) (.slice AI inn cI)) ∧ Bk (put4 u9 u1.heap.size (.slice A6 ec.length c6) (.slice (some ⟨u0.heap.size, 0, none⟩) gn gn) (.slice (some ⟨u7.heap.size, 0, none⟩) 64 64) (.slice AI inn cI)) w.heap.size 29 [.int .i64 j, .int .i64 (inn : Int), .int .i64 (gn : Int), .int .i64 p] ∧ Bk (put4 u9 u1.heap.size (.slice A6 ec.length c6) (.slice (some ⟨u0.heap.size, 0, none⟩) gn gn) (.slice (some ⟨u7.heap.size, 0, none⟩) 64 64) (.slice AI inn cI)) (w.heap.size + 1) 60 [.slice none 0 0, .slice none 0 0, .slice none 0 0, .slice none 0 0] ∧ ((put4 u9 u1.heap.size (.slice A6 ec.length c6) (.slice (some ⟨u0.heap.size, 0, none⟩) gn gn) (.slice (some ⟨u7.heap.size, 0, none⟩) 64 64) (.slice AI inn cI))).ownsRow w.heap.size 68 2 (.slice A6 ec.length c6) ec.length (Intern.rowsV ec) := ⟨HSta.out.below, HSta.out.geo, HSta.out.res, by have := HSta.out.own.rows; rw [HC0.out] at this; exact this⟩
      refine hK.out _ _ hS (fun _ => ?_)
      clear hK K hS hsta hown hHeld r0 r1 r2 r3 f0 f1 f2 f3 hlz
      refine wpAnyH_done (by kernel_rfl) ?_ _
      change Exit.then _ _ _ _ (put4 u9 u1.heap.size (.slice A6 ec.length c6) (.slice (some ⟨u0.heap.size, 0, none⟩) gn gn) (.slice (some ⟨u7.heap.size, 0, none⟩) 64 64) (.slice AI inn cI))
      generalize put4 u9 u1.heap.size (.slice A6 ec.length c6) (.slice (some ⟨u0.heap.size, 0, none⟩) gn gn) (.slice (some ⟨u7.heap.size, 0, none⟩) 64 64) (.slice AI inn cI) = V at *
      obtain ⟨g0, g1, g2, g3⟩ := four_cells HSta.out.geo
      obtain ⟨m0, m1, m2, m3⟩ := four_cells HSta.out.cur
      simp only [HC0.out, HN1.out, HN2.out, HN3.out] at m0 m1 m2 m3
      have hly := HSta.out.own.lies
      have HLY : Hid (∀ u : World, Below V.heap.size V u → Calls Tryz.prog 55 #[.agg #[.int .i64 j, .int .i64 (inn : Int), .int .i64 (gn : Int), .int .i64 p], .agg #[.slice A6 ec.length c6, (.slice (some ⟨u0.heap.size, 0, none⟩) gn gn), (.slice (some ⟨u7.heap.size, 0, none⟩) 64 64), .slice AI inn cI]] u fun e w' => HandsL u (layM ⟨j, (inn : Int), (gn : Int), p⟩ C) e w') := Lib.hid (fun u hu =>
        lay_in j inn gn p C HCO.out _ _ _ _ ec.length c6 gn gn 64 64 inn cI u (by rw [HC0.out]) HN1.out HN2.out HN3.out ((hly.below hu).more hu.size) (by have := HI.out; omega))
      clear hly
      by_cases hRt : Right ⟨j, (inn : Int), (gn : Int), p⟩ C
      rotate_left
      · have HBAD := Lib.hid (HR.out.symm.trans (tak_bad (G := ⟨j, (inn : Int), (gn : Int), p⟩) (l := l) (by rw [HCC.out]; exact hRt)))
        rw [lay_no hRt] at HLY
        clear hRt
        go_wp2_with (go_at_call 55; (with_reducible refine (HLY.out _ (Below.refl _ _)).mono ?_); rintro e w12 ⟨v12, L12, he, -, hb⟩; obtain rfl := he; have HS12 := Lib.hid (HSta.out.later hb); clear hb m0 m1 m2 m3 g0 g1 g2 g3; obtain ⟨m0, m1, m2, m3⟩ := four_cells HS12.out.res; obtain ⟨f0, f1, f2, f3⟩ := four_frozen HS12.out.res; have hlt := HS12.out.res.lt)
        exact pbad_end HBAD.out HS12.out.res rfl rfl HS12.out.below
      rw [lay_yes hRt] at HLY
      have HRT := Lib.hid hRt
      obtain ⟨sn, hsn⟩ : ∃ sn, (secs C).length = sn := ⟨_, rfl⟩
      have HSN := Lib.hid hsn
      clear hRt hsn
      by_cases heq : l = secs C
      rotate_left
      · have HBAD := Lib.hid (HR.out.symm.trans (tak_not (G := ⟨j, (inn : Int), (gn : Int), p⟩) (l := l) (by rw [HCC.out]; exact Ne.symm heq)))
        have hb0 : (l == secs C) = false := by simpa using heq
        have HB0 := Lib.hid hb0
        clear heq hb0
        go_wp2_with (first
          | (go_at_call 55; (with_reducible refine (HLY.out _ (Below.refl _ _)).mono ?_); rintro e w12 hh; obtain ⟨A12, c12, L12, he, -, -, -, hsa, hb⟩ := hh.got; rw [HSN.out] at he; obtain rfl := he; have HS12 := Lib.hid (HSta.out.later hb); have HO12 := Lib.hid hsa; clear hb hsa m0 m1 m2 m3 g0 g1 g2 g3)
          | (go_at_call 125; (with_reducible refine (eqsec_any l (secs C) _ _ n sn _ _ L L12 _ HL.out HSN.out ((HS.out.below HS12.out.below).more HS12.out.below.size) HO12.out hn).mono ?_); rintro e w13 ⟨he, hw⟩; rw [HB0.out] at he; obtain rfl := he; subst hw; obtain ⟨m0, m1, m2, m3⟩ := four_cells HS12.out.res; obtain ⟨f0, f1, f2, f3⟩ := four_frozen HS12.out.res; have hlt := HS12.out.res.lt))
        exact pbad_end HBAD.out HS12.out.res rfl rfl HS12.out.below
      have HGOOD := Lib.hid (HR.out.symm.trans (tak_cand (G := ⟨j, (inn : Int), (gn : Int), p⟩) (l := l) (cand_err (by rw [HCC.out]; exact HRT.out)) (by rw [HCC.out]; exact HRT.out) (by rw [HCC.out]; exact heq.symm)))
      rw [HCC.out] at HGOOD
      have hb0 : (l == secs C) = true := by simpa using heq
      have HB0 := Lib.hid hb0
      clear heq hb0
      go_wp2_with (first
        | (go_at_call 55; (with_reducible refine (HLY.out _ (Below.refl _ _)).mono ?_); rintro e w12 hh; obtain ⟨A12, c12, L12, he, -, -, -, hsa, hb⟩ := hh.got; rw [HSN.out] at he; obtain rfl := he; have HS12 := Lib.hid (HSta.out.later hb); have HO12 := Lib.hid hsa; clear hb hsa m0 m1 m2 m3 g0 g1 g2 g3)
        | (go_at_call 125; (with_reducible refine (eqsec_any l (secs C) _ _ n sn _ _ L L12 _ HL.out HSN.out ((HS.out.below HS12.out.below).more HS12.out.below.size) HO12.out hn).mono ?_); rintro e w13 ⟨he, hw⟩; rw [HB0.out] at he; obtain rfl := he; subst hw; obtain ⟨m0, m1, m2, m3⟩ := four_cells HS12.out.cur; simp only [HC0.out, HN1.out, HN2.out, HN3.out] at m0 m1 m2 m3; obtain ⟨r0, r1, r2, r3⟩ := four_cells HS12.out.res; obtain ⟨f0, f1, f2, f3⟩ := four_frozen HS12.out.res; have hlt := HS12.out.res.lt))
      exact pgood_end (x := ⟨A6, c6, some ⟨u0.heap.size, 0, none⟩, gn, some ⟨u7.heap.size, 0, none⟩, 64, AI, cI⟩) HGOOD.out (by rw [HC0.out]) HN1.out HN2.out HN3.out HS12.out.res rfl rfl HS12.out.own HS12.out.below
  · go_simp
    obtain ⟨u10, hw⟩ : ∃ u, u = u0.alloc (.cells #[.slice none 0 0, .slice none 0 0, .slice none 0 0, .slice none 0 0] 60) := ⟨_, rfl⟩
    rw [← hw]
    have hb : Below u0.heap.size u0 u10 := by rw [hw]; exact al_below _ _
    have KM : Hid (Bk u10 u0.heap.size 60 [.slice none 0 0, .slice none 0 0, .slice none 0 0, .slice none 0 0]) := Lib.hid (by rw [hw]; exact Bk.new _ _ _)
    have LM : Hid (w.heap.size + 1 < u0.heap.size) := Lib.hid hHeld.2.2.1.lt
    have hS : Below w.heap.size w u10 ∧ Bk u10 w.heap.size 29 [.int .i64 j, .int .i64 (inn : Int), .int .i64 (gn : Int), .int .i64 p] ∧ Bk u10 (w.heap.size + 1) 60 [.slice none 0 0, .slice none 0 0, .slice none 0 0, .slice none 0 0] ∧ (u10).ownsRow w.heap.size 68 2 (.slice A6 ec.length c6) ec.length (Intern.rowsV ec) := ⟨hHeld.1.trans (hb.mono hHeld.1.size), hHeld.2.1.below hb hHeld.2.1.lt, hHeld.2.2.1.below hb hHeld.2.2.1.lt, own_below hHeld.2.2.2 hb⟩
    clear hw
    clear hb
    refine hK.out _ _ hS (fun hHeld2 => ?_)
    clear hK K hHeld hS
    have hHeld := hHeld2
    clear hHeld2
    try simp only [Act.put, List.setIfInBounds_toArray, List.set_cons_zero, List.set_cons_succ]
    refine wpAnyH_ready (rs := [7]) (by kernel_rfl) (by simp) ?_
    refine AllReadyH.cons (o := _) (by simp only [List.getElem?_toArray, List.getElem?_cons_succ, List.getElem?_cons_zero]; rfl) (fun K hK => ?_) (AllReadyH.nil)
    go_simp
    (with_reducible refine (HTO.out _ hHeld.1).mono ?_)
    rintro e u11 ⟨he, hk, hb⟩; obtain rfl := he
    replace KM := Lib.hid (KM.out.below hb KM.out.lt)
    have KO := Lib.hid hk
    have LO : Hid (w.heap.size ≤ u10.heap.size) := Lib.hid hHeld.1.size
    have hS : Below w.heap.size w u11 ∧ Bk u11 w.heap.size 29 [.int .i64 j, .int .i64 (inn : Int), .int .i64 (gn : Int), .int .i64 p] ∧ Bk u11 (w.heap.size + 1) 60 [.slice none 0 0, .slice none 0 0, .slice none 0 0, .slice none 0 0] ∧ (u11).ownsRow w.heap.size 68 2 (.slice A6 ec.length c6) ec.length (Intern.rowsV ec) := ⟨hHeld.1.trans (hb.mono hHeld.1.size), hHeld.2.1.below hb hHeld.2.1.lt, hHeld.2.2.1.below hb hHeld.2.2.1.lt, own_below hHeld.2.2.2 hb⟩
    clear hk
    clear hb
    go_simp
    refine hK.out _ _ hS (fun hHeld2 => ?_)
    clear hK K hHeld hS
    have hHeld := hHeld2
    clear hHeld2
    try simp only [Act.put, List.setIfInBounds_toArray, List.set_cons_zero, List.set_cons_succ]
    refine wpAnyH_ready (rs := [11]) (by kernel_rfl) (by simp) ?_
    refine AllReadyH.cons (o := _) (by simp only [List.getElem?_toArray, List.getElem?_cons_succ, List.getElem?_cons_zero]; rfl) (fun K hK => ?_) (AllReadyH.nil)
    go_simp
    (with_reducible refine (HCB.out _ hHeld.1).mono ?_)
    rintro e u12 ⟨he, hw⟩; obtain rfl := he
    have hb : Below u11.heap.size u11 u12 := by rw [hw]; exact al_below _ _
    replace KO := Lib.hid (KO.out.below hb KO.out.lt)
    replace KM := Lib.hid (KM.out.below hb KM.out.lt)
    have KU : Hid (Bk u12 u11.heap.size 5 (bytesV s2)) := Lib.hid (by rw [hw]; exact Bk.new _ _ _)
    have LU : Hid (w.heap.size ≤ u11.heap.size) := Lib.hid hHeld.1.size
    have hS : Below w.heap.size w u12 ∧ Bk u12 w.heap.size 29 [.int .i64 j, .int .i64 (inn : Int), .int .i64 (gn : Int), .int .i64 p] ∧ Bk u12 (w.heap.size + 1) 60 [.slice none 0 0, .slice none 0 0, .slice none 0 0, .slice none 0 0] ∧ (u12).ownsRow w.heap.size 68 2 (.slice A6 ec.length c6) ec.length (Intern.rowsV ec) := ⟨hHeld.1.trans (hb.mono hHeld.1.size), hHeld.2.1.below hb hHeld.2.1.lt, hHeld.2.2.1.below hb hHeld.2.2.1.lt, own_below hHeld.2.2.2 hb⟩
    clear hw
    clear hb
    go_simp
    refine hK.out _ _ hS (fun hHeld2 => ?_)
    clear hK K hHeld hS
    have hHeld := hHeld2
    clear hHeld2
    try simp only [Act.put, List.setIfInBounds_toArray, List.set_cons_zero, List.set_cons_succ]
    refine wpAnyH_ready (rs := [14]) (by kernel_rfl) (by simp) ?_
    refine AllReadyH.cons (o := _) (by simp only [List.getElem?_toArray, List.getElem?_cons_succ, List.getElem?_cons_zero]; rfl) (fun K hK => ?_) (AllReadyH.nil)
    go_simp
    (with_reducible refine (HTI.out _ hHeld.1).mono ?_)
    rintro e u13 ⟨v7, he, hv7, hb⟩; obtain rfl := he
    obtain ⟨AI, cI, hv⟩ := own_slice_any hv7; subst hv
    replace KO := Lib.hid (KO.out.below hb KO.out.lt)
    replace KU := Lib.hid (KU.out.below hb KU.out.lt)
    replace KM := Lib.hid (KM.out.below hb KM.out.lt)
    have KI := Lib.hid (own_mono hv7 hHeld.1.size)
    have hS : Below w.heap.size w u13 ∧ Bk u13 w.heap.size 29 [.int .i64 j, .int .i64 (inn : Int), .int .i64 (gn : Int), .int .i64 p] ∧ Bk u13 (w.heap.size + 1) 60 [.slice none 0 0, .slice none 0 0, .slice none 0 0, .slice none 0 0] ∧ (u13).ownsRow w.heap.size 68 2 (.slice A6 ec.length c6) ec.length (Intern.rowsV ec) := ⟨hHeld.1.trans (hb.mono hHeld.1.size), hHeld.2.1.below hb hHeld.2.1.lt, hHeld.2.2.1.below hb hHeld.2.2.1.lt, own_below hHeld.2.2.2 hb⟩
    clear hv7
    clear hb
    go_simp
    refine hK.out _ _ hS (fun hHeld2 => ?_)
    clear hK K hHeld hS
    have hHeld := hHeld2
    clear hHeld2
    try simp only [Act.put, List.setIfInBounds_toArray, List.set_cons_zero, List.set_cons_succ]
    refine wpAnyH_take (i := 15) (oi := _) (v := ?_) (by simp only [List.getElem?_toArray, List.getElem?_cons_succ, List.getElem?_cons_zero]; rfl) (by kernel_rfl) (by kernel_rfl) (by kernel_rfl) (by exact fun _ _ _ h => h) (Or.inl ⟨by rfl, ?hyx1315⟩) (by exact hHeld) ?rex1315
    case hyx1315 => (intro u hu; clear hu; go_simp <;> with_reducible rfl)
    try simp only [Act.put, List.setIfInBounds_toArray, List.set_cons_zero, List.set_cons_succ]
    obtain ⟨r0, r1, r2, r3⟩ := four_cells KM.out
    obtain ⟨f0, f1, f2, f3⟩ := four_frozen KM.out
    have hlz := KM.out.lt
    have hown : OwnM u13 w.heap.size (⟨A6, c6, some ⟨u10.heap.size, 0, none⟩, gn, some ⟨u11.heap.size, 0, none⟩, 64, AI, cI⟩ : Mem) C := ⟨by rw [HC0.out]; exact hHeld.2.2.2, by rw [HN1.out, HC1.out]; exact bk_own KO.out LO.out (by rw [Inode.length_intsV, ← HC1.out, HN1.out, Nat.mul_one]) rfl (by show gn ≤ maxLen; unfold maxLen; have := HI.out; omega), by rw [HN2.out, HC2.out]; exact bk_own KU.out LU.out (by rw [length_bytesV, HL2.out]) rfl (by show 64 ≤ maxLen; decide), by rw [HN3.out, HC3.out]; exact KI.out⟩
    have hsta := Sta.put hHeld.2.1 hHeld.2.2.1 KM.out hown hHeld.1 LM.out
    simp only [HC0.out, HN1.out, HN2.out, HN3.out] at hsta
    refine wpAnyH_ready (rs := [17]) (by kernel_rfl) (by simp) ?_
    refine AllReadyH.cons (o := _) (by simp only [List.getElem?_toArray, List.getElem?_cons_succ, List.getElem?_cons_zero]; rfl) (fun K hK => ?_) AllReadyH.nil
    go_simp
    change K _ (put4 u13 u0.heap.size (.slice A6 ec.length c6) (.slice (some ⟨u10.heap.size, 0, none⟩) gn gn) (.slice (some ⟨u11.heap.size, 0, none⟩) 64 64) (.slice AI inn cI))
    have HSta := Lib.hid hsta
    have hS : Below w.heap.size w (put4 u13 u0.heap.size (.slice A6 ec.length c6) (.slice (some ⟨u10.heap.size, 0, none⟩) gn gn) (.slice (some ⟨u11.heap.size, 0, none⟩) 64 64) (.slice AI inn cI)) ∧ Bk (put4 u13 u0.heap.size (.slice A6 ec.length c6) (.slice (some ⟨u10.heap.size, 0, none⟩) gn gn) (.slice (some ⟨u11.heap.size, 0, none⟩) 64 64) (.slice AI inn cI)) w.heap.size 29 [.int .i64 j, .int .i64 (inn : Int), .int .i64 (gn : Int), .int .i64 p] ∧ Bk (put4 u13 u0.heap.size (.slice A6 ec.length c6) (.slice (some ⟨u10.heap.size, 0, none⟩) gn gn) (.slice (some ⟨u11.heap.size, 0, none⟩) 64 64) (.slice AI inn cI)) (w.heap.size + 1) 60 [.slice none 0 0, .slice none 0 0, .slice none 0 0, .slice none 0 0] ∧ ((put4 u13 u0.heap.size (.slice A6 ec.length c6) (.slice (some ⟨u10.heap.size, 0, none⟩) gn gn) (.slice (some ⟨u11.heap.size, 0, none⟩) 64 64) (.slice AI inn cI))).ownsRow w.heap.size 68 2 (.slice A6 ec.length c6) ec.length (Intern.rowsV ec) := ⟨HSta.out.below, HSta.out.geo, HSta.out.res, by have := HSta.out.own.rows; rw [HC0.out] at this; exact this⟩
    refine hK.out _ _ hS (fun _ => ?_)
    clear hK K hS hsta hown hHeld r0 r1 r2 r3 f0 f1 f2 f3 hlz
    refine wpAnyH_done (by kernel_rfl) ?_ _
    change Exit.then _ _ _ _ (put4 u13 u0.heap.size (.slice A6 ec.length c6) (.slice (some ⟨u10.heap.size, 0, none⟩) gn gn) (.slice (some ⟨u11.heap.size, 0, none⟩) 64 64) (.slice AI inn cI))
    generalize put4 u13 u0.heap.size (.slice A6 ec.length c6) (.slice (some ⟨u10.heap.size, 0, none⟩) gn gn) (.slice (some ⟨u11.heap.size, 0, none⟩) 64 64) (.slice AI inn cI) = V at *
    obtain ⟨g0, g1, g2, g3⟩ := four_cells HSta.out.geo
    obtain ⟨m0, m1, m2, m3⟩ := four_cells HSta.out.cur
    simp only [HC0.out, HN1.out, HN2.out, HN3.out] at m0 m1 m2 m3
    have hly := HSta.out.own.lies
    have HLY : Hid (∀ u : World, Below V.heap.size V u → Calls Tryz.prog 55 #[.agg #[.int .i64 j, .int .i64 (inn : Int), .int .i64 (gn : Int), .int .i64 p], .agg #[.slice A6 ec.length c6, (.slice (some ⟨u10.heap.size, 0, none⟩) gn gn), (.slice (some ⟨u11.heap.size, 0, none⟩) 64 64), .slice AI inn cI]] u fun e w' => HandsL u (layM ⟨j, (inn : Int), (gn : Int), p⟩ C) e w') := Lib.hid (fun u hu =>
      lay_in j inn gn p C HCO.out _ _ _ _ ec.length c6 gn gn 64 64 inn cI u (by rw [HC0.out]) HN1.out HN2.out HN3.out ((hly.below hu).more hu.size) (by have := HI.out; omega))
    clear hly
    by_cases hRt : Right ⟨j, (inn : Int), (gn : Int), p⟩ C
    rotate_left
    · have HBAD := Lib.hid (HR.out.symm.trans (tak_bad (G := ⟨j, (inn : Int), (gn : Int), p⟩) (l := l) (by rw [HCC.out]; exact hRt)))
      rw [lay_no hRt] at HLY
      clear hRt
      go_wp2_with (go_at_call 55; (with_reducible refine (HLY.out _ (Below.refl _ _)).mono ?_); rintro e w12 ⟨v12, L12, he, -, hb⟩; obtain rfl := he; have HS12 := Lib.hid (HSta.out.later hb); clear hb m0 m1 m2 m3 g0 g1 g2 g3; obtain ⟨m0, m1, m2, m3⟩ := four_cells HS12.out.res; obtain ⟨f0, f1, f2, f3⟩ := four_frozen HS12.out.res; have hlt := HS12.out.res.lt)
      exact pbad_end HBAD.out HS12.out.res rfl rfl HS12.out.below
    rw [lay_yes hRt] at HLY
    have HRT := Lib.hid hRt
    obtain ⟨sn, hsn⟩ : ∃ sn, (secs C).length = sn := ⟨_, rfl⟩
    have HSN := Lib.hid hsn
    clear hRt hsn
    by_cases heq : l = secs C
    rotate_left
    · have HBAD := Lib.hid (HR.out.symm.trans (tak_not (G := ⟨j, (inn : Int), (gn : Int), p⟩) (l := l) (by rw [HCC.out]; exact Ne.symm heq)))
      have hb0 : (l == secs C) = false := by simpa using heq
      have HB0 := Lib.hid hb0
      clear heq hb0
      go_wp2_with (first
        | (go_at_call 55; (with_reducible refine (HLY.out _ (Below.refl _ _)).mono ?_); rintro e w12 hh; obtain ⟨A12, c12, L12, he, -, -, -, hsa, hb⟩ := hh.got; rw [HSN.out] at he; obtain rfl := he; have HS12 := Lib.hid (HSta.out.later hb); have HO12 := Lib.hid hsa; clear hb hsa m0 m1 m2 m3 g0 g1 g2 g3)
        | (go_at_call 125; (with_reducible refine (eqsec_any l (secs C) _ _ n sn _ _ L L12 _ HL.out HSN.out ((HS.out.below HS12.out.below).more HS12.out.below.size) HO12.out hn).mono ?_); rintro e w13 ⟨he, hw⟩; rw [HB0.out] at he; obtain rfl := he; subst hw; obtain ⟨m0, m1, m2, m3⟩ := four_cells HS12.out.res; obtain ⟨f0, f1, f2, f3⟩ := four_frozen HS12.out.res; have hlt := HS12.out.res.lt))
      exact pbad_end HBAD.out HS12.out.res rfl rfl HS12.out.below
    have HGOOD := Lib.hid (HR.out.symm.trans (tak_cand (G := ⟨j, (inn : Int), (gn : Int), p⟩) (l := l) (cand_err (by rw [HCC.out]; exact HRT.out)) (by rw [HCC.out]; exact HRT.out) (by rw [HCC.out]; exact heq.symm)))
    rw [HCC.out] at HGOOD
    have hb0 : (l == secs C) = true := by simpa using heq
    have HB0 := Lib.hid hb0
    clear heq hb0
    go_wp2_with (first
      | (go_at_call 55; (with_reducible refine (HLY.out _ (Below.refl _ _)).mono ?_); rintro e w12 hh; obtain ⟨A12, c12, L12, he, -, -, -, hsa, hb⟩ := hh.got; rw [HSN.out] at he; obtain rfl := he; have HS12 := Lib.hid (HSta.out.later hb); have HO12 := Lib.hid hsa; clear hb hsa m0 m1 m2 m3 g0 g1 g2 g3)
      | (go_at_call 125; (with_reducible refine (eqsec_any l (secs C) _ _ n sn _ _ L L12 _ HL.out HSN.out ((HS.out.below HS12.out.below).more HS12.out.below.size) HO12.out hn).mono ?_); rintro e w13 ⟨he, hw⟩; rw [HB0.out] at he; obtain rfl := he; subst hw; obtain ⟨m0, m1, m2, m3⟩ := four_cells HS12.out.cur; simp only [HC0.out, HN1.out, HN2.out, HN3.out] at m0 m1 m2 m3; obtain ⟨r0, r1, r2, r3⟩ := four_cells HS12.out.res; obtain ⟨f0, f1, f2, f3⟩ := four_frozen HS12.out.res; have hlt := HS12.out.res.lt))
    exact pgood_end (x := ⟨A6, c6, some ⟨u10.heap.size, 0, none⟩, gn, some ⟨u11.heap.size, 0, none⟩, 64, AI, cI⟩) HGOOD.out (by rw [HC0.out]) HN1.out HN2.out HN3.out HS12.out.res rfl rfl HS12.out.own HS12.out.below
set_option maxRecDepth 100000 in
theorem ptake_no (j i g p : Int) (hv : ¬ Super.Valid j i g p) (l : List (List UInt8)) (A : Option Addr) (n c : Nat) (L : List Sc) (w : World) (hl : l.length = n) (hs : SecsAt w w.heap.size A L l) (hn : n ≤ 1000000) :
    Calls Tryz.prog 63 #[.agg #[.int .i64 j, .int .i64 i, .int .i64 g, .int .i64 p], .slice A n c] w fun e w' => HandsM w (takM ⟨j, i, g, p⟩ l) e w' := by
  obtain ⟨W, hW⟩ : ∃ W, W = (w.alloc (.cells #[.int .i64 j, .int .i64 i, .int .i64 g, .int .i64 p] 29)).alloc (.cells #[.slice none 0 0, .slice none 0 0, .slice none 0 0, .slice none 0 0] 60) := ⟨_, rfl⟩
  have hbW : Below w.heap.size w W := by rw [hW]; exact (Below.refl _ _).alloc (Nat.le_refl _) _ |>.alloc (by simp) _
  have hG : Bk W w.heap.size 29 [.int .i64 j, .int .i64 i, .int .i64 g, .int .i64 p] := by rw [hW]; exact (Bk.new w 29 [.int .i64 j, .int .i64 i, .int .i64 g, .int .i64 p]).below ((Below.refl _ _).alloc (Nat.le_refl _) _) (by simp)
  have hM : Bk W (w.heap.size + 1) 60 [.slice none 0 0, .slice none 0 0, .slice none 0 0, .slice none 0 0] := by
    rw [hW]
    have := Bk.new (w.alloc (.cells #[.int .i64 j, .int .i64 i, .int .i64 g, .int .i64 p] 29)) 60 [.slice none 0 0, .slice none 0 0, .slice none 0 0, .slice none 0 0]
    simpa using this
  have HM := Lib.hid hM
  have HB := Lib.hid hbW
  have HW := Lib.hid hW
  obtain ⟨g0, g1, g2, g3⟩ := four_cells hG
  clear hbW hG hM hW
  have HAS : Hid (∀ u : World, Below w.heap.size w u → Calls Tryz.prog 121 #[.agg #[.int .i64 j, .int .i64 i, .int .i64 g, .int .i64 p], .slice A n c] u fun e w' => e = .returned (.bool false) ∧ Below u.heap.size u w') := Lib.hid (fun u hu => by
    have := assec_any j i g p l A n c L u hl ((hs.below hu).more hu.size) hn
    rwa [show secB ⟨j, i, g, p⟩ l = false from Inode.decB_no (fun h => hv h.1)] at this)
  rw [tak_geo (G := ⟨j, i, g, p⟩) hv]
  clear hv hs hl
  go_enter Tryz.func63, Tryz.ntmps63
  go_upto_region 1 with fail
  rw [← HW.out]
  go_wp2_with (go_at_call 121; (with_reducible refine (HAS.out _ HB.out).mono ?_); rintro e w1 ⟨he, hb⟩; obtain rfl := he; have HM2 := Lib.hid (HM.out.below hb HM.out.lt); have HB2 := Lib.hid (HB.out.trans (hb.mono HB.out.size)); clear hb; obtain ⟨m0, m1, m2, m3⟩ := four_cells HM2.out; obtain ⟨f0, f1, f2, f3⟩ := four_frozen HM2.out; have hlt := HM2.out.lt)
  exact pbad_end rfl HM2.out rfl rfl HB2.out
/-- Package meta's Take, of any parting and any sectors. -/
theorem ptake_any (G : Geo) (l : List (List UInt8)) (A : Option Addr) (n c : Nat) (L : List Sc) (w : World) (hl : l.length = n) (hs : SecsAt w w.heap.size A L l) (hn : n ≤ 1000000) (hcap : n ≤ c) :
    Calls Tryz.prog 63 #[.agg #[.int .i64 G.j, .int .i64 G.i, .int .i64 G.g, .int .i64 G.p], .slice A n c] w fun e w' => HandsM w (takM G l) e w' := by
  by_cases hv : G.Ok
  · have h1 := hv.i1
    have h2 := hv.g1
    obtain ⟨j, i, g, p⟩ := G
    obtain ⟨inn, hi⟩ := Int.eq_ofNat_of_zero_le (show 0 ≤ i by simp only at h1; omega)
    obtain ⟨gn, hg⟩ := Int.eq_ofNat_of_zero_le (show 0 ≤ g by simp only at h2; omega)
    subst hi hg
    exact ptake_in j p inn gn l A n c L w hl hs hn hcap
  · exact ptake_no G.j G.i G.g G.p hv l A n c L w hl hs hn
end Go.Proofs.YtcjkbmmjpkghlaaGreat.Meta
