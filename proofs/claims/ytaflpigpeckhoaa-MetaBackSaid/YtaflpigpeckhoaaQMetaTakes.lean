/-
  What is known by sectors is the document's: for every parting, every list (the first 50 lists, of up to 100 bytes each).
  No condition is set.
-/
import Derived.Test.YtaflpigpeckhoaaQMetaSh
namespace Go.Proofs.Ytaflpigpeckhoaa
open Go.RowKit Go.ChangeShapes Go.WideShapes Go.ChangeAt Go.Deep Go.Joins Meta

theorem Meta.takM_ok (G : Geo) (l : List (List UInt8)) : Okm (takM G l).1 ∧ (takM G l).1.rows.length ≤ 64 ∧ (takM G l).1.own.length ≤ 64 ∧ (takM G l).1.used.length ≤ 64 ∧ (takM G l).1.ino.length ≤ 64 := by
  rcases tak_or G l with ⟨m, h1, h2, h3, h4⟩ | ⟨h4, _⟩
  · rw [h4]
    exact ⟨h2, by have := h1.rows.len; show m.rows.length ≤ 64; omega, h1.own64, by have := h1.ulen; show m.used.length ≤ 64; omega, h1.ino64⟩
  · rw [h4]
    exact ⟨Okm.z, by decide, by decide, by decide, by decide⟩
set_option maxRecDepth 100000 in
set_option maxHeartbeats 6400000 in
theorem takes_walk (j i g p : Int) (l : List (List UInt8)) (A : Option Addr) (n c : Nat) (L : List Sc) (w : World) (hl : l.length = n) (hc : n ≤ c) (hs : SecsAt w w.heap.size A L l) : Calls Try.prog 4 #[.agg #[.int .i64 j, .int .i64 i, .int .i64 g, .int .i64 p], .slice A n c] w fun e w' => e = .returned (.bool true) ∧ Below w.heap.size w w' := by
  have hfl := fewN_le 50 l
  obtain ⟨k, hk⟩ : ∃ k, fewN 50 l = k := ⟨_, rfl⟩
  rw [hk] at hfl
  have hkl : (l.take k).length = k := by rw [List.length_take]; omega
  obtain ⟨h1, h2, h3, h4, h5⟩ := takM_ok ⟨j, i, g, p⟩ (l.take k)
  obtain ⟨m, hm⟩ : ∃ m, (takM ⟨j, i, g, p⟩ (l.take k)).1 = m := ⟨_, rfl⟩
  obtain ⟨er, her⟩ : ∃ er, (takM ⟨j, i, g, p⟩ (l.take k)).2 = er := ⟨_, rfl⟩
  have hr : takM ⟨j, i, g, p⟩ (l.take k) = (m, er) := by rw [← hm, ← her]
  rw [hm] at h1 h2 h3 h4 h5
  obtain ⟨n0, hn0⟩ : ∃ q, m.rows.length = q := ⟨_, rfl⟩
  obtain ⟨n1, hn1⟩ : ∃ q, m.own.length = q := ⟨_, rfl⟩
  obtain ⟨n2, hn2⟩ : ∃ q, m.used.length = q := ⟨_, rfl⟩
  obtain ⟨n3, hn3⟩ : ∃ q, m.ino.length = q := ⟨_, rfl⟩
  have HN0 := Lib.hid hn0
  have HN1 := Lib.hid hn1
  have HN2 := Lib.hid hn2
  have HN3 := Lib.hid hn3
  have HG := Lib.hid (geo_box w j i g p)
  have HB := Lib.hid (al_below w (.cells #[.int .i64 j, .int .i64 i, .int .i64 g, .int .i64 p] 23))
  have HFEW : Hid (∀ u : World, Below w.heap.size w u → Calls Try.prog 20 #[.slice A n c] u fun e w' => e = .returned (.slice A k c) ∧ Below u.heap.size u w') := Lib.hid (fun u hu => by
    have := few_any l A n c L u hl ((hs.below hu).more hu.size) hc
    rwa [hk] at this)
  have HTAKE : Hid (∀ u : World, Below w.heap.size w u → Calls Try.prog 19 #[.agg #[.int .i64 j, .int .i64 i, .int .i64 g, .int .i64 p], .slice A k c] u fun e w' => HandsM u (m, er) e w') := Lib.hid (fun u hu => by
    have := ptake_any ⟨j, i, g, p⟩ (l.take k) A k c (L.take k) u hkl (((hs.below hu).more hu.size).few k) (by omega) (by omega)
    rwa [hr] at this)
  have HRTAKE : Hid (∀ u : World, Below w.heap.size w u → Calls Try.prog 21 #[.agg #[.int .i64 j, .int .i64 i, .int .i64 g, .int .i64 p], .slice A k c] u fun e w' => HandsM u (m, er) e w') := Lib.hid (fun u hu => by
    have := rtake_any ⟨j, i, g, p⟩ (l.take k) A k c (L.take k) u hkl (((hs.below hu).more hu.size).few k) (by omega)
    rwa [hr] at this)
  have HSAME : Hid (∀ (u : World) (A0 A1 A2 A3 : Option Addr) (k0 k1 k2 k3 : Nat) (B0 B1 B2 B3 : Option Addr) (d0 d1 d2 d3 : Nat), Lies u u.heap.size ⟨A0, k0, A1, k1, A2, k2, A3, k3⟩ m → Lies u u.heap.size ⟨B0, d0, B1, d1, B2, d2, B3, d3⟩ m → Calls Try.prog 15 #[.agg #[.slice A0 n0 k0, .slice A1 n1 k1, .slice A2 n2 k2, .slice A3 n3 k3], .agg #[.slice B0 n0 d0, .slice B1 n1 d1, .slice B2 n2 d2, .slice B3 n3 d3]] u fun e w' => e = .returned (.bool true) ∧ Below u.heap.size u w') := Lib.hid (fun u A0 A1 A2 A3 k0 k1 k2 k3 B0 B1 B2 B3 d0 d1 d2 d3 hl hk =>
    rsame_in m h1 A0 A1 A2 A3 B0 B1 B2 B3 n0 k0 n1 k1 n2 k2 n3 k3 d0 d1 d2 d3 u hn0 hn1 hn2 hn3 hl hk (by omega))
  clear hfl hk hkl h1 h2 h3 h4 h5 hm her hr hn0 hn1 hn2 hn3 hs hl
  go_enter Try.func4, Try.ntmps4
  go_upto_region 1 with fail
  generalize w.alloc (.cells #[.int .i64 j, .int .i64 i, .int .i64 g, .int .i64 p] 23) = W at *
  have HF1 := Lib.hid (fun (u : World) (hu : Below W.heap.size W u) => HFEW.out u (HB.out.trans (hu.mono HB.out.size)))
  have HT1 := Lib.hid (fun (u : World) (hu : Below W.heap.size W u) => HTAKE.out u (HB.out.trans (hu.mono HB.out.size)))
  refine Go.wp_mono (Q := (Exit.then (fun a u => ∃ M A0 k0 A1 k1 A2 k2 A3 k3, a = { tmps := #[.agg #[.int .i64 j, .int .i64 i, .int .i64 g, .int .i64 p], .slice A n c, .pointer (some ⟨w.heap.size, 0, none⟩), undef, .bool false, .pointer (some ⟨M, 0, none⟩), .int .i64 (er : Int), undef, undef, .tuple #[.agg #[.slice A0 n0 k0, .slice A1 n1 k1, .slice A2 n2 k2, .slice A3 n3 k3], .int .i64 (er : Int)], .agg #[.int .i64 j, .int .i64 i, .int .i64 g, .int .i64 p], .slice A n c, .slice A k c, .tuple #[.agg #[.slice A0 n0 k0, .slice A1 n1 k1, .slice A2 n2 k2, .slice A3 n3 k3], .int .i64 (er : Int)], .agg #[.slice A0 n0 k0, .slice A1 n1 k1, .slice A2 n2 k2, .slice A3 n3 k3], .int .i64 (er : Int), undef, undef, undef, undef, undef, undef, undef, undef, undef, undef, undef, undef, undef, undef, undef, undef, undef, undef], defers := [] } ∧ Below W.heap.size W u ∧ Bk u M 29 [.slice A0 n0 k0, .slice A1 n1 k1, .slice A2 n2 k2, .slice A3 n3 k3] ∧ OwnM u W.heap.size ⟨A0, k0, A1, k1, A2, k2, A3, k3⟩ m ∧ W.heap.size ≤ M) (fun _ _ _ => False))) ?_ ?_
  · clear HB HRTAKE HSAME
    have hS0 : Below W.heap.size W W.drew := (Below.refl _ _).drew
    refine wp_region_held_drew (S := fun u => Below W.heap.size W u) (by kernel_rfl) hS0 (fun hHeld => ?_)
    refine wpAnyH_take (i := 0) (oi := _) (v := ?_) (by simp only [List.getElem?_toArray, List.getElem?_cons_zero]; rfl) (by kernel_rfl) (by kernel_rfl) (by kernel_rfl) (by exact fun _ _ _ h => h) (Or.inl ⟨by rfl, ?hyx00⟩) (by exact hHeld) ?rex00
    case hyx00 => (intro u hu; obtain ⟨g0, g1, g2, g3⟩ := four_cells (HG.out.below hu HG.out.lt); clear hu; go_simp <;> with_reducible rfl)
    try simp only [Act.put, List.setIfInBounds_toArray, List.set_cons_zero, List.set_cons_succ]
    refine wpAnyH_take (i := 1) (oi := _) (v := ?_) (by simp only [List.getElem?_toArray, List.getElem?_cons_succ, List.getElem?_cons_zero]; rfl) (by kernel_rfl) (by kernel_rfl) (by kernel_rfl) (by exact fun _ _ _ h => h) (Or.inl ⟨by rfl, ?hyx01⟩) (by exact hHeld) ?rex01
    case hyx01 => (intro u hu; obtain ⟨g0, g1, g2, g3⟩ := four_cells (HG.out.below hu HG.out.lt); clear hu; go_simp <;> with_reducible rfl)
    try simp only [Act.put, List.setIfInBounds_toArray, List.set_cons_zero, List.set_cons_succ]
    clear hS0
    generalize hu0 : W.drew = u0 at *
    clear hu0
    refine wpAnyH_ready (rs := [2, 7]) (by kernel_rfl) (by simp) ?_
    refine AllReadyH.cons (o := _) (by simp only [List.getElem?_toArray, List.getElem?_cons_succ, List.getElem?_cons_zero]; rfl) (fun K hK => ?_) (AllReadyH.cons (o := _) (by simp only [List.getElem?_toArray, List.getElem?_cons_succ, List.getElem?_cons_zero]; rfl) (fun K hK => ?_) (AllReadyH.nil))
    · go_simp
      (with_reducible refine (HF1.out _ hHeld).mono ?_)
      rintro e v2 ⟨he, hb⟩; obtain rfl := he
      have hS : Below W.heap.size W v2 := hHeld.trans (hb.mono hHeld.size)
      clear hb
      go_simp
      refine hK.out _ _ hS (fun hHeld2 => ?_)
      clear hK K hHeld hS
      have hHeld := hHeld2
      clear hHeld2
      try simp only [Act.put, List.setIfInBounds_toArray, List.set_cons_zero, List.set_cons_succ]
      refine wpAnyH_ready (rs := [3, 7]) (by kernel_rfl) (by simp) ?_
      refine AllReadyH.cons (o := _) (by simp only [List.getElem?_toArray, List.getElem?_cons_succ, List.getElem?_cons_zero]; rfl) (fun K hK => ?_) (AllReadyH.cons (o := _) (by simp only [List.getElem?_toArray, List.getElem?_cons_succ, List.getElem?_cons_zero]; rfl) (fun K hK => ?_) (AllReadyH.nil))
      · go_simp
        (with_reducible refine (HT1.out _ hHeld).mono ?_)
        rintro e v3 hh
        obtain ⟨A0, k0, A1, k1, A2, k2, A3, k3, he, ho, hb⟩ := hh.got HN0.out HN1.out HN2.out HN3.out
        obtain rfl := he
        have KO := Lib.hid (ho.base hHeld.size)
        clear ho hh
        have hS : Below W.heap.size W v3 := hHeld.trans (hb.mono hHeld.size)
        clear hb
        go_simp
        refine hK.out _ _ hS (fun hHeld2 => ?_)
        clear hK K hHeld hS
        have hHeld := hHeld2
        clear hHeld2
        try simp only [Act.put, List.setIfInBounds_toArray, List.set_cons_zero, List.set_cons_succ]
        refine wpAnyH_take (i := 4) (oi := _) (v := ?_) (by simp only [List.getElem?_toArray, List.getElem?_cons_succ, List.getElem?_cons_zero]; rfl) (by kernel_rfl) (by kernel_rfl) (by kernel_rfl) (by exact fun _ _ _ h => h) (Or.inl ⟨by rfl, ?hyx34⟩) (by exact hHeld) ?rex34
        case hyx34 => (intro u hu; clear hu; go_simp <;> with_reducible rfl)
        try simp only [Act.put, List.setIfInBounds_toArray, List.set_cons_zero, List.set_cons_succ]
        refine wpAnyH_take (i := 5) (oi := _) (v := ?_) (by simp only [List.getElem?_toArray, List.getElem?_cons_succ, List.getElem?_cons_zero]; rfl) (by kernel_rfl) (by kernel_rfl) (by kernel_rfl) (by exact fun _ _ _ h => h) (Or.inl ⟨by rfl, ?hyx35⟩) (by exact hHeld) ?rex35
        case hyx35 => (intro u hu; clear hu; go_simp <;> with_reducible rfl)
        try simp only [Act.put, List.setIfInBounds_toArray, List.set_cons_zero, List.set_cons_succ]
        refine wpAnyH_take (i := 6) (oi := _) (v := ?_) (by simp only [List.getElem?_toArray, List.getElem?_cons_succ, List.getElem?_cons_zero]; rfl) (by kernel_rfl) (by kernel_rfl) (by kernel_rfl) (by exact fun _ _ _ h => h) (Or.inl ⟨by rfl, ?hyx36⟩) (by exact hHeld) ?rex36
        case hyx36 => (intro u hu; clear hu; go_simp <;> with_reducible rfl)
        try simp only [Act.put, List.setIfInBounds_toArray, List.set_cons_zero, List.set_cons_succ]
        refine wpAnyH_ready (rs := [7]) (by kernel_rfl) (by simp) ?_
        refine AllReadyH.cons (o := _) (by simp only [List.getElem?_toArray, List.getElem?_cons_succ, List.getElem?_cons_zero]; rfl) (fun K hK => ?_) (AllReadyH.nil)
        go_simp
        obtain ⟨v5, hw⟩ : ∃ u, u = v3.alloc (.cells #[.slice none 0 0, .slice none 0 0, .slice none 0 0, .slice none 0 0] 29) := ⟨_, rfl⟩
        rw [← hw]
        have hb : Below v3.heap.size v3 v5 := by rw [hw]; exact al_below _ _
        replace KO := Lib.hid (KO.out.below hb)
        have KM : Hid (Bk v5 v3.heap.size 29 [.slice none 0 0, .slice none 0 0, .slice none 0 0, .slice none 0 0]) := Lib.hid (by rw [hw]; exact Bk.new _ _ _)
        have LM : Hid (W.heap.size ≤ v3.heap.size) := Lib.hid hHeld.size
        clear hw
        have hS : Below W.heap.size W v5 := hHeld.trans (hb.mono hHeld.size)
        clear hb
        refine hK.out _ _ hS (fun hHeld2 => ?_)
        clear hK K hHeld hS
        have hHeld := hHeld2
        clear hHeld2
        try simp only [Act.put, List.setIfInBounds_toArray, List.set_cons_zero, List.set_cons_succ]
        obtain ⟨r0, r1, r2, r3⟩ := four_cells KM.out
        obtain ⟨f0, f1, f2, f3⟩ := four_frozen KM.out
        have hlz := KM.out.lt
        refine wpAnyH_ready (rs := [8]) (by kernel_rfl) (by simp) ?_
        refine AllReadyH.cons (o := _) (by simp only [List.getElem?_toArray, List.getElem?_cons_succ, List.getElem?_cons_zero]; rfl) (fun K hK => ?_) AllReadyH.nil
        go_simp
        change K _ (put4 v5 v3.heap.size (.slice A0 n0 k0) (.slice A1 n1 k1) (.slice A2 n2 k2) (.slice A3 n3 k3))
        have hS : Below W.heap.size W (put4 v5 v3.heap.size (.slice A0 n0 k0) (.slice A1 n1 k1) (.slice A2 n2 k2) (.slice A3 n3 k3)) := put4_below hHeld LM.out _ _ _ _
        have HVV := Lib.hid (put4_bk (a0 := .slice A0 n0 k0) (a1 := .slice A1 n1 k1) (a2 := .slice A2 n2 k2) (a3 := .slice A3 n3 k3) KM.out)
        have HOO := Lib.hid (ownM_set (((KM.out.set 0 (.slice A0 n0 k0)).set 1 (.slice A1 n1 k1)).set 2 (.slice A2 n2 k2)) (ownM_set ((KM.out.set 0 (.slice A0 n0 k0)).set 1 (.slice A1 n1 k1)) (ownM_set (KM.out.set 0 (.slice A0 n0 k0)) (ownM_set KM.out KO.out 0 (.slice A0 n0 k0)) 1 (.slice A1 n1 k1)) 2 (.slice A2 n2 k2)) 3 (.slice A3 n3 k3))
        refine hK.out _ _ hS (fun hHeld2 => ?_)
        clear hK K hS hHeld r0 r1 r2 r3 f0 f1 f2 f3 hlz
        have hHeld := hHeld2
        clear hHeld2
        try simp only [Act.put, List.setIfInBounds_toArray, List.set_cons_zero, List.set_cons_succ]
        refine wpAnyH_take (i := 9) (oi := _) (v := ?_) (by simp only [List.getElem?_toArray, List.getElem?_cons_succ, List.getElem?_cons_zero]; rfl) (by kernel_rfl) (by kernel_rfl) (by kernel_rfl) (by exact fun _ _ _ h => h) (Or.inl ⟨by rfl, ?hyx69⟩) (by exact hHeld) ?rex69
        case hyx69 => (intro u hu; clear hu; go_simp <;> with_reducible rfl)
        try simp only [Act.put, List.setIfInBounds_toArray, List.set_cons_zero, List.set_cons_succ]
        refine wpAnyH_done (by kernel_rfl) ?_ _
        exact ⟨v3.heap.size, A0, k0, A1, k1, A2, k2, A3, k3, rfl, hHeld, HVV.out, HOO.out, LM.out⟩
      · go_simp
        obtain ⟨v8, hw⟩ : ∃ u, u = v2.alloc (.cells #[.slice none 0 0, .slice none 0 0, .slice none 0 0, .slice none 0 0] 29) := ⟨_, rfl⟩
        rw [← hw]
        have hb : Below v2.heap.size v2 v8 := by rw [hw]; exact al_below _ _
        have KM : Hid (Bk v8 v2.heap.size 29 [.slice none 0 0, .slice none 0 0, .slice none 0 0, .slice none 0 0]) := Lib.hid (by rw [hw]; exact Bk.new _ _ _)
        have LM : Hid (W.heap.size ≤ v2.heap.size) := Lib.hid hHeld.size
        clear hw
        have hS : Below W.heap.size W v8 := hHeld.trans (hb.mono hHeld.size)
        clear hb
        refine hK.out _ _ hS (fun hHeld2 => ?_)
        clear hK K hHeld hS
        have hHeld := hHeld2
        clear hHeld2
        try simp only [Act.put, List.setIfInBounds_toArray, List.set_cons_zero, List.set_cons_succ]
        refine wpAnyH_ready (rs := [3]) (by kernel_rfl) (by simp) ?_
        refine AllReadyH.cons (o := _) (by simp only [List.getElem?_toArray, List.getElem?_cons_succ, List.getElem?_cons_zero]; rfl) (fun K hK => ?_) (AllReadyH.nil)
        go_simp
        (with_reducible refine (HT1.out _ hHeld).mono ?_)
        rintro e v9 hh
        obtain ⟨A0, k0, A1, k1, A2, k2, A3, k3, he, ho, hb⟩ := hh.got HN0.out HN1.out HN2.out HN3.out
        obtain rfl := he
        replace KM := Lib.hid (KM.out.below hb KM.out.lt)
        have KO := Lib.hid (ho.base hHeld.size)
        clear ho hh
        have hS : Below W.heap.size W v9 := hHeld.trans (hb.mono hHeld.size)
        clear hb
        go_simp
        refine hK.out _ _ hS (fun hHeld2 => ?_)
        clear hK K hHeld hS
        have hHeld := hHeld2
        clear hHeld2
        try simp only [Act.put, List.setIfInBounds_toArray, List.set_cons_zero, List.set_cons_succ]
        refine wpAnyH_take (i := 4) (oi := _) (v := ?_) (by simp only [List.getElem?_toArray, List.getElem?_cons_succ, List.getElem?_cons_zero]; rfl) (by kernel_rfl) (by kernel_rfl) (by kernel_rfl) (by exact fun _ _ _ h => h) (Or.inl ⟨by rfl, ?hyx94⟩) (by exact hHeld) ?rex94
        case hyx94 => (intro u hu; clear hu; go_simp <;> with_reducible rfl)
        try simp only [Act.put, List.setIfInBounds_toArray, List.set_cons_zero, List.set_cons_succ]
        refine wpAnyH_take (i := 5) (oi := _) (v := ?_) (by simp only [List.getElem?_toArray, List.getElem?_cons_succ, List.getElem?_cons_zero]; rfl) (by kernel_rfl) (by kernel_rfl) (by kernel_rfl) (by exact fun _ _ _ h => h) (Or.inl ⟨by rfl, ?hyx95⟩) (by exact hHeld) ?rex95
        case hyx95 => (intro u hu; clear hu; go_simp <;> with_reducible rfl)
        try simp only [Act.put, List.setIfInBounds_toArray, List.set_cons_zero, List.set_cons_succ]
        refine wpAnyH_take (i := 6) (oi := _) (v := ?_) (by simp only [List.getElem?_toArray, List.getElem?_cons_succ, List.getElem?_cons_zero]; rfl) (by kernel_rfl) (by kernel_rfl) (by kernel_rfl) (by exact fun _ _ _ h => h) (Or.inl ⟨by rfl, ?hyx96⟩) (by exact hHeld) ?rex96
        case hyx96 => (intro u hu; clear hu; go_simp <;> with_reducible rfl)
        try simp only [Act.put, List.setIfInBounds_toArray, List.set_cons_zero, List.set_cons_succ]
        obtain ⟨r0, r1, r2, r3⟩ := four_cells KM.out
        obtain ⟨f0, f1, f2, f3⟩ := four_frozen KM.out
        have hlz := KM.out.lt
        refine wpAnyH_ready (rs := [8]) (by kernel_rfl) (by simp) ?_
        refine AllReadyH.cons (o := _) (by simp only [List.getElem?_toArray, List.getElem?_cons_succ, List.getElem?_cons_zero]; rfl) (fun K hK => ?_) AllReadyH.nil
        go_simp
        change K _ (put4 v9 v2.heap.size (.slice A0 n0 k0) (.slice A1 n1 k1) (.slice A2 n2 k2) (.slice A3 n3 k3))
        have hS : Below W.heap.size W (put4 v9 v2.heap.size (.slice A0 n0 k0) (.slice A1 n1 k1) (.slice A2 n2 k2) (.slice A3 n3 k3)) := put4_below hHeld LM.out _ _ _ _
        have HVV := Lib.hid (put4_bk (a0 := .slice A0 n0 k0) (a1 := .slice A1 n1 k1) (a2 := .slice A2 n2 k2) (a3 := .slice A3 n3 k3) KM.out)
        have HOO := Lib.hid (ownM_set (((KM.out.set 0 (.slice A0 n0 k0)).set 1 (.slice A1 n1 k1)).set 2 (.slice A2 n2 k2)) (ownM_set ((KM.out.set 0 (.slice A0 n0 k0)).set 1 (.slice A1 n1 k1)) (ownM_set (KM.out.set 0 (.slice A0 n0 k0)) (ownM_set KM.out KO.out 0 (.slice A0 n0 k0)) 1 (.slice A1 n1 k1)) 2 (.slice A2 n2 k2)) 3 (.slice A3 n3 k3))
        refine hK.out _ _ hS (fun hHeld2 => ?_)
        clear hK K hS hHeld r0 r1 r2 r3 f0 f1 f2 f3 hlz
        have hHeld := hHeld2
        clear hHeld2
        try simp only [Act.put, List.setIfInBounds_toArray, List.set_cons_zero, List.set_cons_succ]
        refine wpAnyH_take (i := 9) (oi := _) (v := ?_) (by simp only [List.getElem?_toArray, List.getElem?_cons_succ, List.getElem?_cons_zero]; rfl) (by kernel_rfl) (by kernel_rfl) (by kernel_rfl) (by exact fun _ _ _ h => h) (Or.inl ⟨by rfl, ?hyx119⟩) (by exact hHeld) ?rex119
        case hyx119 => (intro u hu; clear hu; go_simp <;> with_reducible rfl)
        try simp only [Act.put, List.setIfInBounds_toArray, List.set_cons_zero, List.set_cons_succ]
        refine wpAnyH_done (by kernel_rfl) ?_ _
        exact ⟨v2.heap.size, A0, k0, A1, k1, A2, k2, A3, k3, rfl, hHeld, HVV.out, HOO.out, LM.out⟩
    · go_simp
      obtain ⟨v13, hw⟩ : ∃ u, u = u0.alloc (.cells #[.slice none 0 0, .slice none 0 0, .slice none 0 0, .slice none 0 0] 29) := ⟨_, rfl⟩
      rw [← hw]
      have hb : Below u0.heap.size u0 v13 := by rw [hw]; exact al_below _ _
      have KM : Hid (Bk v13 u0.heap.size 29 [.slice none 0 0, .slice none 0 0, .slice none 0 0, .slice none 0 0]) := Lib.hid (by rw [hw]; exact Bk.new _ _ _)
      have LM : Hid (W.heap.size ≤ u0.heap.size) := Lib.hid hHeld.size
      clear hw
      have hS : Below W.heap.size W v13 := hHeld.trans (hb.mono hHeld.size)
      clear hb
      refine hK.out _ _ hS (fun hHeld2 => ?_)
      clear hK K hHeld hS
      have hHeld := hHeld2
      clear hHeld2
      try simp only [Act.put, List.setIfInBounds_toArray, List.set_cons_zero, List.set_cons_succ]
      refine wpAnyH_ready (rs := [2]) (by kernel_rfl) (by simp) ?_
      refine AllReadyH.cons (o := _) (by simp only [List.getElem?_toArray, List.getElem?_cons_succ, List.getElem?_cons_zero]; rfl) (fun K hK => ?_) (AllReadyH.nil)
      go_simp
      (with_reducible refine (HF1.out _ hHeld).mono ?_)
      rintro e v14 ⟨he, hb⟩; obtain rfl := he
      replace KM := Lib.hid (KM.out.below hb KM.out.lt)
      have hS : Below W.heap.size W v14 := hHeld.trans (hb.mono hHeld.size)
      clear hb
      go_simp
      refine hK.out _ _ hS (fun hHeld2 => ?_)
      clear hK K hHeld hS
      have hHeld := hHeld2
      clear hHeld2
      try simp only [Act.put, List.setIfInBounds_toArray, List.set_cons_zero, List.set_cons_succ]
      refine wpAnyH_ready (rs := [3]) (by kernel_rfl) (by simp) ?_
      refine AllReadyH.cons (o := _) (by simp only [List.getElem?_toArray, List.getElem?_cons_succ, List.getElem?_cons_zero]; rfl) (fun K hK => ?_) (AllReadyH.nil)
      go_simp
      (with_reducible refine (HT1.out _ hHeld).mono ?_)
      rintro e v15 hh
      obtain ⟨A0, k0, A1, k1, A2, k2, A3, k3, he, ho, hb⟩ := hh.got HN0.out HN1.out HN2.out HN3.out
      obtain rfl := he
      replace KM := Lib.hid (KM.out.below hb KM.out.lt)
      have KO := Lib.hid (ho.base hHeld.size)
      clear ho hh
      have hS : Below W.heap.size W v15 := hHeld.trans (hb.mono hHeld.size)
      clear hb
      go_simp
      refine hK.out _ _ hS (fun hHeld2 => ?_)
      clear hK K hHeld hS
      have hHeld := hHeld2
      clear hHeld2
      try simp only [Act.put, List.setIfInBounds_toArray, List.set_cons_zero, List.set_cons_succ]
      refine wpAnyH_take (i := 4) (oi := _) (v := ?_) (by simp only [List.getElem?_toArray, List.getElem?_cons_succ, List.getElem?_cons_zero]; rfl) (by kernel_rfl) (by kernel_rfl) (by kernel_rfl) (by exact fun _ _ _ h => h) (Or.inl ⟨by rfl, ?hyx154⟩) (by exact hHeld) ?rex154
      case hyx154 => (intro u hu; clear hu; go_simp <;> with_reducible rfl)
      try simp only [Act.put, List.setIfInBounds_toArray, List.set_cons_zero, List.set_cons_succ]
      refine wpAnyH_take (i := 5) (oi := _) (v := ?_) (by simp only [List.getElem?_toArray, List.getElem?_cons_succ, List.getElem?_cons_zero]; rfl) (by kernel_rfl) (by kernel_rfl) (by kernel_rfl) (by exact fun _ _ _ h => h) (Or.inl ⟨by rfl, ?hyx155⟩) (by exact hHeld) ?rex155
      case hyx155 => (intro u hu; clear hu; go_simp <;> with_reducible rfl)
      try simp only [Act.put, List.setIfInBounds_toArray, List.set_cons_zero, List.set_cons_succ]
      refine wpAnyH_take (i := 6) (oi := _) (v := ?_) (by simp only [List.getElem?_toArray, List.getElem?_cons_succ, List.getElem?_cons_zero]; rfl) (by kernel_rfl) (by kernel_rfl) (by kernel_rfl) (by exact fun _ _ _ h => h) (Or.inl ⟨by rfl, ?hyx156⟩) (by exact hHeld) ?rex156
      case hyx156 => (intro u hu; clear hu; go_simp <;> with_reducible rfl)
      try simp only [Act.put, List.setIfInBounds_toArray, List.set_cons_zero, List.set_cons_succ]
      obtain ⟨r0, r1, r2, r3⟩ := four_cells KM.out
      obtain ⟨f0, f1, f2, f3⟩ := four_frozen KM.out
      have hlz := KM.out.lt
      refine wpAnyH_ready (rs := [8]) (by kernel_rfl) (by simp) ?_
      refine AllReadyH.cons (o := _) (by simp only [List.getElem?_toArray, List.getElem?_cons_succ, List.getElem?_cons_zero]; rfl) (fun K hK => ?_) AllReadyH.nil
      go_simp
      change K _ (put4 v15 u0.heap.size (.slice A0 n0 k0) (.slice A1 n1 k1) (.slice A2 n2 k2) (.slice A3 n3 k3))
      have hS : Below W.heap.size W (put4 v15 u0.heap.size (.slice A0 n0 k0) (.slice A1 n1 k1) (.slice A2 n2 k2) (.slice A3 n3 k3)) := put4_below hHeld LM.out _ _ _ _
      have HVV := Lib.hid (put4_bk (a0 := .slice A0 n0 k0) (a1 := .slice A1 n1 k1) (a2 := .slice A2 n2 k2) (a3 := .slice A3 n3 k3) KM.out)
      have HOO := Lib.hid (ownM_set (((KM.out.set 0 (.slice A0 n0 k0)).set 1 (.slice A1 n1 k1)).set 2 (.slice A2 n2 k2)) (ownM_set ((KM.out.set 0 (.slice A0 n0 k0)).set 1 (.slice A1 n1 k1)) (ownM_set (KM.out.set 0 (.slice A0 n0 k0)) (ownM_set KM.out KO.out 0 (.slice A0 n0 k0)) 1 (.slice A1 n1 k1)) 2 (.slice A2 n2 k2)) 3 (.slice A3 n3 k3))
      refine hK.out _ _ hS (fun hHeld2 => ?_)
      clear hK K hS hHeld r0 r1 r2 r3 f0 f1 f2 f3 hlz
      have hHeld := hHeld2
      clear hHeld2
      try simp only [Act.put, List.setIfInBounds_toArray, List.set_cons_zero, List.set_cons_succ]
      refine wpAnyH_take (i := 9) (oi := _) (v := ?_) (by simp only [List.getElem?_toArray, List.getElem?_cons_succ, List.getElem?_cons_zero]; rfl) (by kernel_rfl) (by kernel_rfl) (by kernel_rfl) (by exact fun _ _ _ h => h) (Or.inl ⟨by rfl, ?hyx179⟩) (by exact hHeld) ?rex179
      case hyx179 => (intro u hu; clear hu; go_simp <;> with_reducible rfl)
      try simp only [Act.put, List.setIfInBounds_toArray, List.set_cons_zero, List.set_cons_succ]
      refine wpAnyH_done (by kernel_rfl) ?_ _
      exact ⟨u0.heap.size, A0, k0, A1, k1, A2, k2, A3, k3, rfl, hHeld, HVV.out, HOO.out, LM.out⟩
  intro e a u1 h
  cases e <;> first | exact h.elim | skip
  obtain ⟨M1, B0, d0, B1, d1, B2, d2, B3, d3, rfl, hb1, hv1, ho1, hm1⟩ := h
  dsimp only
  have HG1 := Lib.hid (HG.out.below hb1 HG.out.lt)
  have HB1 := Lib.hid (HB.out.trans (hb1.mono HB.out.size))
  have HV1 := Lib.hid hv1
  have HO1 := Lib.hid ho1
  clear hb1 hv1 ho1 HF1 HT1
  go_upto_region 2 with fail
  have HF2 := Lib.hid (fun (u : World) (hu : Below u1.heap.size u1 u) => HFEW.out u (HB1.out.trans (hu.mono HB1.out.size)))
  have HT2 := Lib.hid (fun (u : World) (hu : Below u1.heap.size u1 u) => HRTAKE.out u (HB1.out.trans (hu.mono HB1.out.size)))
  refine Go.wp_mono (Q := (Exit.then (fun a u => ∃ M A0 k0 A1 k1 A2 k2 A3 k3, a = { tmps := #[.agg #[.int .i64 j, .int .i64 i, .int .i64 g, .int .i64 p], .slice A n c, .pointer (some ⟨w.heap.size, 0, none⟩), undef, .bool false, .pointer (some ⟨M1, 0, none⟩), .int .i64 (er : Int), .pointer (some ⟨M, 0, none⟩), .int .i64 (er : Int), .tuple #[.agg #[.slice B0 n0 d0, .slice B1 n1 d1, .slice B2 n2 d2, .slice B3 n3 d3], .int .i64 (er : Int)], .agg #[.int .i64 j, .int .i64 i, .int .i64 g, .int .i64 p], .slice A n c, .slice A k c, .tuple #[.agg #[.slice B0 n0 d0, .slice B1 n1 d1, .slice B2 n2 d2, .slice B3 n3 d3], .int .i64 (er : Int)], .agg #[.slice B0 n0 d0, .slice B1 n1 d1, .slice B2 n2 d2, .slice B3 n3 d3], .int .i64 (er : Int), .tuple #[.agg #[.slice A0 n0 k0, .slice A1 n1 k1, .slice A2 n2 k2, .slice A3 n3 k3], .int .i64 (er : Int)], .agg #[.int .i64 j, .int .i64 i, .int .i64 g, .int .i64 p], .slice A n c, .slice A k c, .tuple #[.agg #[.slice A0 n0 k0, .slice A1 n1 k1, .slice A2 n2 k2, .slice A3 n3 k3], .int .i64 (er : Int)], .agg #[.slice A0 n0 k0, .slice A1 n1 k1, .slice A2 n2 k2, .slice A3 n3 k3], .int .i64 (er : Int), undef, undef, undef, undef, undef, undef, undef, undef, undef, undef, undef], defers := [] } ∧ Below u1.heap.size u1 u ∧ Bk u M 29 [.slice A0 n0 k0, .slice A1 n1 k1, .slice A2 n2 k2, .slice A3 n3 k3] ∧ OwnM u u1.heap.size ⟨A0, k0, A1, k1, A2, k2, A3, k3⟩ m ∧ u1.heap.size ≤ M) (fun _ _ _ => False))) ?_ ?_
  · clear HB1 HTAKE HSAME HB HRTAKE
    have hS0 : Below u1.heap.size u1 u1.drew := (Below.refl _ _).drew
    refine wp_region_held_drew (S := fun u => Below u1.heap.size u1 u) (by kernel_rfl) hS0 (fun hHeld => ?_)
    refine wpAnyH_take (i := 0) (oi := _) (v := ?_) (by simp only [List.getElem?_toArray, List.getElem?_cons_zero]; rfl) (by kernel_rfl) (by kernel_rfl) (by kernel_rfl) (by exact fun _ _ _ h => h) (Or.inl ⟨by rfl, ?hyy00⟩) (by exact hHeld) ?rey00
    case hyy00 => (intro u hu; obtain ⟨g0, g1, g2, g3⟩ := four_cells (HG1.out.below hu HG1.out.lt); clear hu; go_simp <;> with_reducible rfl)
    try simp only [Act.put, List.setIfInBounds_toArray, List.set_cons_zero, List.set_cons_succ]
    refine wpAnyH_take (i := 1) (oi := _) (v := ?_) (by simp only [List.getElem?_toArray, List.getElem?_cons_succ, List.getElem?_cons_zero]; rfl) (by kernel_rfl) (by kernel_rfl) (by kernel_rfl) (by exact fun _ _ _ h => h) (Or.inl ⟨by rfl, ?hyy01⟩) (by exact hHeld) ?rey01
    case hyy01 => (intro u hu; obtain ⟨g0, g1, g2, g3⟩ := four_cells (HG1.out.below hu HG1.out.lt); clear hu; go_simp <;> with_reducible rfl)
    try simp only [Act.put, List.setIfInBounds_toArray, List.set_cons_zero, List.set_cons_succ]
    clear hS0
    generalize hu0 : u1.drew = u0 at *
    clear hu0
    refine wpAnyH_ready (rs := [2, 7]) (by kernel_rfl) (by simp) ?_
    refine AllReadyH.cons (o := _) (by simp only [List.getElem?_toArray, List.getElem?_cons_succ, List.getElem?_cons_zero]; rfl) (fun K hK => ?_) (AllReadyH.cons (o := _) (by simp only [List.getElem?_toArray, List.getElem?_cons_succ, List.getElem?_cons_zero]; rfl) (fun K hK => ?_) (AllReadyH.nil))
    · go_simp
      (with_reducible refine (HF2.out _ hHeld).mono ?_)
      rintro e v2 ⟨he, hb⟩; obtain rfl := he
      have hS : Below u1.heap.size u1 v2 := hHeld.trans (hb.mono hHeld.size)
      clear hb
      go_simp
      refine hK.out _ _ hS (fun hHeld2 => ?_)
      clear hK K hHeld hS
      have hHeld := hHeld2
      clear hHeld2
      try simp only [Act.put, List.setIfInBounds_toArray, List.set_cons_zero, List.set_cons_succ]
      refine wpAnyH_ready (rs := [3, 7]) (by kernel_rfl) (by simp) ?_
      refine AllReadyH.cons (o := _) (by simp only [List.getElem?_toArray, List.getElem?_cons_succ, List.getElem?_cons_zero]; rfl) (fun K hK => ?_) (AllReadyH.cons (o := _) (by simp only [List.getElem?_toArray, List.getElem?_cons_succ, List.getElem?_cons_zero]; rfl) (fun K hK => ?_) (AllReadyH.nil))
      · go_simp
        (with_reducible refine (HT2.out _ hHeld).mono ?_)
        rintro e v3 hh
        obtain ⟨A0, k0, A1, k1, A2, k2, A3, k3, he, ho, hb⟩ := hh.got HN0.out HN1.out HN2.out HN3.out
        obtain rfl := he
        have KO := Lib.hid (ho.base hHeld.size)
        clear ho hh
        have hS : Below u1.heap.size u1 v3 := hHeld.trans (hb.mono hHeld.size)
        clear hb
        go_simp
        refine hK.out _ _ hS (fun hHeld2 => ?_)
        clear hK K hHeld hS
        have hHeld := hHeld2
        clear hHeld2
        try simp only [Act.put, List.setIfInBounds_toArray, List.set_cons_zero, List.set_cons_succ]
        refine wpAnyH_take (i := 4) (oi := _) (v := ?_) (by simp only [List.getElem?_toArray, List.getElem?_cons_succ, List.getElem?_cons_zero]; rfl) (by kernel_rfl) (by kernel_rfl) (by kernel_rfl) (by exact fun _ _ _ h => h) (Or.inl ⟨by rfl, ?hyy34⟩) (by exact hHeld) ?rey34
        case hyy34 => (intro u hu; clear hu; go_simp <;> with_reducible rfl)
        try simp only [Act.put, List.setIfInBounds_toArray, List.set_cons_zero, List.set_cons_succ]
        refine wpAnyH_take (i := 5) (oi := _) (v := ?_) (by simp only [List.getElem?_toArray, List.getElem?_cons_succ, List.getElem?_cons_zero]; rfl) (by kernel_rfl) (by kernel_rfl) (by kernel_rfl) (by exact fun _ _ _ h => h) (Or.inl ⟨by rfl, ?hyy35⟩) (by exact hHeld) ?rey35
        case hyy35 => (intro u hu; clear hu; go_simp <;> with_reducible rfl)
        try simp only [Act.put, List.setIfInBounds_toArray, List.set_cons_zero, List.set_cons_succ]
        refine wpAnyH_take (i := 6) (oi := _) (v := ?_) (by simp only [List.getElem?_toArray, List.getElem?_cons_succ, List.getElem?_cons_zero]; rfl) (by kernel_rfl) (by kernel_rfl) (by kernel_rfl) (by exact fun _ _ _ h => h) (Or.inl ⟨by rfl, ?hyy36⟩) (by exact hHeld) ?rey36
        case hyy36 => (intro u hu; clear hu; go_simp <;> with_reducible rfl)
        try simp only [Act.put, List.setIfInBounds_toArray, List.set_cons_zero, List.set_cons_succ]
        refine wpAnyH_ready (rs := [7]) (by kernel_rfl) (by simp) ?_
        refine AllReadyH.cons (o := _) (by simp only [List.getElem?_toArray, List.getElem?_cons_succ, List.getElem?_cons_zero]; rfl) (fun K hK => ?_) (AllReadyH.nil)
        go_simp
        obtain ⟨v5, hw⟩ : ∃ u, u = v3.alloc (.cells #[.slice none 0 0, .slice none 0 0, .slice none 0 0, .slice none 0 0] 29) := ⟨_, rfl⟩
        rw [← hw]
        have hb : Below v3.heap.size v3 v5 := by rw [hw]; exact al_below _ _
        replace KO := Lib.hid (KO.out.below hb)
        have KM : Hid (Bk v5 v3.heap.size 29 [.slice none 0 0, .slice none 0 0, .slice none 0 0, .slice none 0 0]) := Lib.hid (by rw [hw]; exact Bk.new _ _ _)
        have LM : Hid (u1.heap.size ≤ v3.heap.size) := Lib.hid hHeld.size
        clear hw
        have hS : Below u1.heap.size u1 v5 := hHeld.trans (hb.mono hHeld.size)
        clear hb
        refine hK.out _ _ hS (fun hHeld2 => ?_)
        clear hK K hHeld hS
        have hHeld := hHeld2
        clear hHeld2
        try simp only [Act.put, List.setIfInBounds_toArray, List.set_cons_zero, List.set_cons_succ]
        obtain ⟨r0, r1, r2, r3⟩ := four_cells KM.out
        obtain ⟨f0, f1, f2, f3⟩ := four_frozen KM.out
        have hlz := KM.out.lt
        refine wpAnyH_ready (rs := [8]) (by kernel_rfl) (by simp) ?_
        refine AllReadyH.cons (o := _) (by simp only [List.getElem?_toArray, List.getElem?_cons_succ, List.getElem?_cons_zero]; rfl) (fun K hK => ?_) AllReadyH.nil
        go_simp
        change K _ (put4 v5 v3.heap.size (.slice A0 n0 k0) (.slice A1 n1 k1) (.slice A2 n2 k2) (.slice A3 n3 k3))
        have hS : Below u1.heap.size u1 (put4 v5 v3.heap.size (.slice A0 n0 k0) (.slice A1 n1 k1) (.slice A2 n2 k2) (.slice A3 n3 k3)) := put4_below hHeld LM.out _ _ _ _
        have HVV := Lib.hid (put4_bk (a0 := .slice A0 n0 k0) (a1 := .slice A1 n1 k1) (a2 := .slice A2 n2 k2) (a3 := .slice A3 n3 k3) KM.out)
        have HOO := Lib.hid (ownM_set (((KM.out.set 0 (.slice A0 n0 k0)).set 1 (.slice A1 n1 k1)).set 2 (.slice A2 n2 k2)) (ownM_set ((KM.out.set 0 (.slice A0 n0 k0)).set 1 (.slice A1 n1 k1)) (ownM_set (KM.out.set 0 (.slice A0 n0 k0)) (ownM_set KM.out KO.out 0 (.slice A0 n0 k0)) 1 (.slice A1 n1 k1)) 2 (.slice A2 n2 k2)) 3 (.slice A3 n3 k3))
        refine hK.out _ _ hS (fun hHeld2 => ?_)
        clear hK K hS hHeld r0 r1 r2 r3 f0 f1 f2 f3 hlz
        have hHeld := hHeld2
        clear hHeld2
        try simp only [Act.put, List.setIfInBounds_toArray, List.set_cons_zero, List.set_cons_succ]
        refine wpAnyH_take (i := 9) (oi := _) (v := ?_) (by simp only [List.getElem?_toArray, List.getElem?_cons_succ, List.getElem?_cons_zero]; rfl) (by kernel_rfl) (by kernel_rfl) (by kernel_rfl) (by exact fun _ _ _ h => h) (Or.inl ⟨by rfl, ?hyy69⟩) (by exact hHeld) ?rey69
        case hyy69 => (intro u hu; clear hu; go_simp <;> with_reducible rfl)
        try simp only [Act.put, List.setIfInBounds_toArray, List.set_cons_zero, List.set_cons_succ]
        refine wpAnyH_done (by kernel_rfl) ?_ _
        exact ⟨v3.heap.size, A0, k0, A1, k1, A2, k2, A3, k3, rfl, hHeld, HVV.out, HOO.out, LM.out⟩
      · go_simp
        obtain ⟨v8, hw⟩ : ∃ u, u = v2.alloc (.cells #[.slice none 0 0, .slice none 0 0, .slice none 0 0, .slice none 0 0] 29) := ⟨_, rfl⟩
        rw [← hw]
        have hb : Below v2.heap.size v2 v8 := by rw [hw]; exact al_below _ _
        have KM : Hid (Bk v8 v2.heap.size 29 [.slice none 0 0, .slice none 0 0, .slice none 0 0, .slice none 0 0]) := Lib.hid (by rw [hw]; exact Bk.new _ _ _)
        have LM : Hid (u1.heap.size ≤ v2.heap.size) := Lib.hid hHeld.size
        clear hw
        have hS : Below u1.heap.size u1 v8 := hHeld.trans (hb.mono hHeld.size)
        clear hb
        refine hK.out _ _ hS (fun hHeld2 => ?_)
        clear hK K hHeld hS
        have hHeld := hHeld2
        clear hHeld2
        try simp only [Act.put, List.setIfInBounds_toArray, List.set_cons_zero, List.set_cons_succ]
        refine wpAnyH_ready (rs := [3]) (by kernel_rfl) (by simp) ?_
        refine AllReadyH.cons (o := _) (by simp only [List.getElem?_toArray, List.getElem?_cons_succ, List.getElem?_cons_zero]; rfl) (fun K hK => ?_) (AllReadyH.nil)
        go_simp
        (with_reducible refine (HT2.out _ hHeld).mono ?_)
        rintro e v9 hh
        obtain ⟨A0, k0, A1, k1, A2, k2, A3, k3, he, ho, hb⟩ := hh.got HN0.out HN1.out HN2.out HN3.out
        obtain rfl := he
        replace KM := Lib.hid (KM.out.below hb KM.out.lt)
        have KO := Lib.hid (ho.base hHeld.size)
        clear ho hh
        have hS : Below u1.heap.size u1 v9 := hHeld.trans (hb.mono hHeld.size)
        clear hb
        go_simp
        refine hK.out _ _ hS (fun hHeld2 => ?_)
        clear hK K hHeld hS
        have hHeld := hHeld2
        clear hHeld2
        try simp only [Act.put, List.setIfInBounds_toArray, List.set_cons_zero, List.set_cons_succ]
        refine wpAnyH_take (i := 4) (oi := _) (v := ?_) (by simp only [List.getElem?_toArray, List.getElem?_cons_succ, List.getElem?_cons_zero]; rfl) (by kernel_rfl) (by kernel_rfl) (by kernel_rfl) (by exact fun _ _ _ h => h) (Or.inl ⟨by rfl, ?hyy94⟩) (by exact hHeld) ?rey94
        case hyy94 => (intro u hu; clear hu; go_simp <;> with_reducible rfl)
        try simp only [Act.put, List.setIfInBounds_toArray, List.set_cons_zero, List.set_cons_succ]
        refine wpAnyH_take (i := 5) (oi := _) (v := ?_) (by simp only [List.getElem?_toArray, List.getElem?_cons_succ, List.getElem?_cons_zero]; rfl) (by kernel_rfl) (by kernel_rfl) (by kernel_rfl) (by exact fun _ _ _ h => h) (Or.inl ⟨by rfl, ?hyy95⟩) (by exact hHeld) ?rey95
        case hyy95 => (intro u hu; clear hu; go_simp <;> with_reducible rfl)
        try simp only [Act.put, List.setIfInBounds_toArray, List.set_cons_zero, List.set_cons_succ]
        refine wpAnyH_take (i := 6) (oi := _) (v := ?_) (by simp only [List.getElem?_toArray, List.getElem?_cons_succ, List.getElem?_cons_zero]; rfl) (by kernel_rfl) (by kernel_rfl) (by kernel_rfl) (by exact fun _ _ _ h => h) (Or.inl ⟨by rfl, ?hyy96⟩) (by exact hHeld) ?rey96
        case hyy96 => (intro u hu; clear hu; go_simp <;> with_reducible rfl)
        try simp only [Act.put, List.setIfInBounds_toArray, List.set_cons_zero, List.set_cons_succ]
        obtain ⟨r0, r1, r2, r3⟩ := four_cells KM.out
        obtain ⟨f0, f1, f2, f3⟩ := four_frozen KM.out
        have hlz := KM.out.lt
        refine wpAnyH_ready (rs := [8]) (by kernel_rfl) (by simp) ?_
        refine AllReadyH.cons (o := _) (by simp only [List.getElem?_toArray, List.getElem?_cons_succ, List.getElem?_cons_zero]; rfl) (fun K hK => ?_) AllReadyH.nil
        go_simp
        change K _ (put4 v9 v2.heap.size (.slice A0 n0 k0) (.slice A1 n1 k1) (.slice A2 n2 k2) (.slice A3 n3 k3))
        have hS : Below u1.heap.size u1 (put4 v9 v2.heap.size (.slice A0 n0 k0) (.slice A1 n1 k1) (.slice A2 n2 k2) (.slice A3 n3 k3)) := put4_below hHeld LM.out _ _ _ _
        have HVV := Lib.hid (put4_bk (a0 := .slice A0 n0 k0) (a1 := .slice A1 n1 k1) (a2 := .slice A2 n2 k2) (a3 := .slice A3 n3 k3) KM.out)
        have HOO := Lib.hid (ownM_set (((KM.out.set 0 (.slice A0 n0 k0)).set 1 (.slice A1 n1 k1)).set 2 (.slice A2 n2 k2)) (ownM_set ((KM.out.set 0 (.slice A0 n0 k0)).set 1 (.slice A1 n1 k1)) (ownM_set (KM.out.set 0 (.slice A0 n0 k0)) (ownM_set KM.out KO.out 0 (.slice A0 n0 k0)) 1 (.slice A1 n1 k1)) 2 (.slice A2 n2 k2)) 3 (.slice A3 n3 k3))
        refine hK.out _ _ hS (fun hHeld2 => ?_)
        clear hK K hS hHeld r0 r1 r2 r3 f0 f1 f2 f3 hlz
        have hHeld := hHeld2
        clear hHeld2
        try simp only [Act.put, List.setIfInBounds_toArray, List.set_cons_zero, List.set_cons_succ]
        refine wpAnyH_take (i := 9) (oi := _) (v := ?_) (by simp only [List.getElem?_toArray, List.getElem?_cons_succ, List.getElem?_cons_zero]; rfl) (by kernel_rfl) (by kernel_rfl) (by kernel_rfl) (by exact fun _ _ _ h => h) (Or.inl ⟨by rfl, ?hyy119⟩) (by exact hHeld) ?rey119
        case hyy119 => (intro u hu; clear hu; go_simp <;> with_reducible rfl)
        try simp only [Act.put, List.setIfInBounds_toArray, List.set_cons_zero, List.set_cons_succ]
        refine wpAnyH_done (by kernel_rfl) ?_ _
        exact ⟨v2.heap.size, A0, k0, A1, k1, A2, k2, A3, k3, rfl, hHeld, HVV.out, HOO.out, LM.out⟩
    · go_simp
      obtain ⟨v13, hw⟩ : ∃ u, u = u0.alloc (.cells #[.slice none 0 0, .slice none 0 0, .slice none 0 0, .slice none 0 0] 29) := ⟨_, rfl⟩
      rw [← hw]
      have hb : Below u0.heap.size u0 v13 := by rw [hw]; exact al_below _ _
      have KM : Hid (Bk v13 u0.heap.size 29 [.slice none 0 0, .slice none 0 0, .slice none 0 0, .slice none 0 0]) := Lib.hid (by rw [hw]; exact Bk.new _ _ _)
      have LM : Hid (u1.heap.size ≤ u0.heap.size) := Lib.hid hHeld.size
      clear hw
      have hS : Below u1.heap.size u1 v13 := hHeld.trans (hb.mono hHeld.size)
      clear hb
      refine hK.out _ _ hS (fun hHeld2 => ?_)
      clear hK K hHeld hS
      have hHeld := hHeld2
      clear hHeld2
      try simp only [Act.put, List.setIfInBounds_toArray, List.set_cons_zero, List.set_cons_succ]
      refine wpAnyH_ready (rs := [2]) (by kernel_rfl) (by simp) ?_
      refine AllReadyH.cons (o := _) (by simp only [List.getElem?_toArray, List.getElem?_cons_succ, List.getElem?_cons_zero]; rfl) (fun K hK => ?_) (AllReadyH.nil)
      go_simp
      (with_reducible refine (HF2.out _ hHeld).mono ?_)
      rintro e v14 ⟨he, hb⟩; obtain rfl := he
      replace KM := Lib.hid (KM.out.below hb KM.out.lt)
      have hS : Below u1.heap.size u1 v14 := hHeld.trans (hb.mono hHeld.size)
      clear hb
      go_simp
      refine hK.out _ _ hS (fun hHeld2 => ?_)
      clear hK K hHeld hS
      have hHeld := hHeld2
      clear hHeld2
      try simp only [Act.put, List.setIfInBounds_toArray, List.set_cons_zero, List.set_cons_succ]
      refine wpAnyH_ready (rs := [3]) (by kernel_rfl) (by simp) ?_
      refine AllReadyH.cons (o := _) (by simp only [List.getElem?_toArray, List.getElem?_cons_succ, List.getElem?_cons_zero]; rfl) (fun K hK => ?_) (AllReadyH.nil)
      go_simp
      (with_reducible refine (HT2.out _ hHeld).mono ?_)
      rintro e v15 hh
      obtain ⟨A0, k0, A1, k1, A2, k2, A3, k3, he, ho, hb⟩ := hh.got HN0.out HN1.out HN2.out HN3.out
      obtain rfl := he
      replace KM := Lib.hid (KM.out.below hb KM.out.lt)
      have KO := Lib.hid (ho.base hHeld.size)
      clear ho hh
      have hS : Below u1.heap.size u1 v15 := hHeld.trans (hb.mono hHeld.size)
      clear hb
      go_simp
      refine hK.out _ _ hS (fun hHeld2 => ?_)
      clear hK K hHeld hS
      have hHeld := hHeld2
      clear hHeld2
      try simp only [Act.put, List.setIfInBounds_toArray, List.set_cons_zero, List.set_cons_succ]
      refine wpAnyH_take (i := 4) (oi := _) (v := ?_) (by simp only [List.getElem?_toArray, List.getElem?_cons_succ, List.getElem?_cons_zero]; rfl) (by kernel_rfl) (by kernel_rfl) (by kernel_rfl) (by exact fun _ _ _ h => h) (Or.inl ⟨by rfl, ?hyy154⟩) (by exact hHeld) ?rey154
      case hyy154 => (intro u hu; clear hu; go_simp <;> with_reducible rfl)
      try simp only [Act.put, List.setIfInBounds_toArray, List.set_cons_zero, List.set_cons_succ]
      refine wpAnyH_take (i := 5) (oi := _) (v := ?_) (by simp only [List.getElem?_toArray, List.getElem?_cons_succ, List.getElem?_cons_zero]; rfl) (by kernel_rfl) (by kernel_rfl) (by kernel_rfl) (by exact fun _ _ _ h => h) (Or.inl ⟨by rfl, ?hyy155⟩) (by exact hHeld) ?rey155
      case hyy155 => (intro u hu; clear hu; go_simp <;> with_reducible rfl)
      try simp only [Act.put, List.setIfInBounds_toArray, List.set_cons_zero, List.set_cons_succ]
      refine wpAnyH_take (i := 6) (oi := _) (v := ?_) (by simp only [List.getElem?_toArray, List.getElem?_cons_succ, List.getElem?_cons_zero]; rfl) (by kernel_rfl) (by kernel_rfl) (by kernel_rfl) (by exact fun _ _ _ h => h) (Or.inl ⟨by rfl, ?hyy156⟩) (by exact hHeld) ?rey156
      case hyy156 => (intro u hu; clear hu; go_simp <;> with_reducible rfl)
      try simp only [Act.put, List.setIfInBounds_toArray, List.set_cons_zero, List.set_cons_succ]
      obtain ⟨r0, r1, r2, r3⟩ := four_cells KM.out
      obtain ⟨f0, f1, f2, f3⟩ := four_frozen KM.out
      have hlz := KM.out.lt
      refine wpAnyH_ready (rs := [8]) (by kernel_rfl) (by simp) ?_
      refine AllReadyH.cons (o := _) (by simp only [List.getElem?_toArray, List.getElem?_cons_succ, List.getElem?_cons_zero]; rfl) (fun K hK => ?_) AllReadyH.nil
      go_simp
      change K _ (put4 v15 u0.heap.size (.slice A0 n0 k0) (.slice A1 n1 k1) (.slice A2 n2 k2) (.slice A3 n3 k3))
      have hS : Below u1.heap.size u1 (put4 v15 u0.heap.size (.slice A0 n0 k0) (.slice A1 n1 k1) (.slice A2 n2 k2) (.slice A3 n3 k3)) := put4_below hHeld LM.out _ _ _ _
      have HVV := Lib.hid (put4_bk (a0 := .slice A0 n0 k0) (a1 := .slice A1 n1 k1) (a2 := .slice A2 n2 k2) (a3 := .slice A3 n3 k3) KM.out)
      have HOO := Lib.hid (ownM_set (((KM.out.set 0 (.slice A0 n0 k0)).set 1 (.slice A1 n1 k1)).set 2 (.slice A2 n2 k2)) (ownM_set ((KM.out.set 0 (.slice A0 n0 k0)).set 1 (.slice A1 n1 k1)) (ownM_set (KM.out.set 0 (.slice A0 n0 k0)) (ownM_set KM.out KO.out 0 (.slice A0 n0 k0)) 1 (.slice A1 n1 k1)) 2 (.slice A2 n2 k2)) 3 (.slice A3 n3 k3))
      refine hK.out _ _ hS (fun hHeld2 => ?_)
      clear hK K hS hHeld r0 r1 r2 r3 f0 f1 f2 f3 hlz
      have hHeld := hHeld2
      clear hHeld2
      try simp only [Act.put, List.setIfInBounds_toArray, List.set_cons_zero, List.set_cons_succ]
      refine wpAnyH_take (i := 9) (oi := _) (v := ?_) (by simp only [List.getElem?_toArray, List.getElem?_cons_succ, List.getElem?_cons_zero]; rfl) (by kernel_rfl) (by kernel_rfl) (by kernel_rfl) (by exact fun _ _ _ h => h) (Or.inl ⟨by rfl, ?hyy179⟩) (by exact hHeld) ?rey179
      case hyy179 => (intro u hu; clear hu; go_simp <;> with_reducible rfl)
      try simp only [Act.put, List.setIfInBounds_toArray, List.set_cons_zero, List.set_cons_succ]
      refine wpAnyH_done (by kernel_rfl) ?_ _
      exact ⟨u0.heap.size, A0, k0, A1, k1, A2, k2, A3, k3, rfl, hHeld, HVV.out, HOO.out, LM.out⟩
  intro e a u2 h
  cases e <;> first | exact h.elim | skip
  obtain ⟨M2, A0, k0, A1, k1, A2, k2, A3, k3, rfl, hb2, hv2, ho2, hm2⟩ := h
  dsimp only
  have HB2 := Lib.hid (HB1.out.trans (hb2.mono HB1.out.size))
  have HO2 := Lib.hid ho2
  have HV2 := Lib.hid hv2
  have HOB := Lib.hid (HO1.out.below hb2)
  have HVB := Lib.hid (HV1.out.below hb2 HV1.out.lt)
  clear hb2 hv2 ho2 hm1 hm2 HF2 HT2 HV1 HO1 HB1 HG1 HB HG
  obtain ⟨m0, m1, m2, m3⟩ := four_cells HV2.out
  obtain ⟨q0, q1, q2, q3⟩ := four_cells HVB.out
  go_wp2_with (first
    | (go_at_call 9; (with_reducible refine (shown_any _).mono ?_); rintro e w1 ⟨he, hb⟩; obtain rfl := he; replace HB2 := Lib.hid (HB2.out.trans (hb.mono HB2.out.size)); replace HO2 := Lib.hid (HO2.out.below hb); replace HOB := Lib.hid (HOB.out.below hb); replace HV2 := Lib.hid (HV2.out.below hb HV2.out.lt); replace HVB := Lib.hid (HVB.out.below hb HVB.out.lt); clear m0 m1 m2 m3 q0 q1 q2 q3 hb; obtain ⟨m0, m1, m2, m3⟩ := four_cells HV2.out; obtain ⟨q0, q1, q2, q3⟩ := four_cells HVB.out)
    | (go_at_call 15; (with_reducible refine (HSAME.out _ _ _ _ _ _ _ _ _ _ _ _ _ _ _ _ _ HOB.out.lies HO2.out.lies).mono ?_); rintro e w2 ⟨he, hb⟩; obtain rfl := he; replace HB2 := Lib.hid (HB2.out.trans (hb.mono HB2.out.size)); replace HO2 := Lib.hid (HO2.out.below hb); replace HOB := Lib.hid (HOB.out.below hb); replace HV2 := Lib.hid (HV2.out.below hb HV2.out.lt); replace HVB := Lib.hid (HVB.out.below hb HVB.out.lt); clear m0 m1 m2 m3 q0 q1 q2 q3 hb; obtain ⟨m0, m1, m2, m3⟩ := four_cells HV2.out; obtain ⟨q0, q1, q2, q3⟩ := four_cells HVB.out))
  go_ret
  exact ⟨rfl, HB2.out⟩

set_option maxRecDepth 100000 in
theorem takes_contract (H : Type) (enc : TypeId × Value → H) (W : World) (base : Nat) (args : Array Value) (ds gs : List (DataW H)) (before : List MemPlace)
    (hval : ∀ (j : Nat) t v, Try.f4.params[j]? = some t → args[j]? = some v → Value.okWide Try.prog W .any base t v)
    (hW : DataW.Whole enc Try.prog Try.f4.params.toList Rows.metaTakesSpec.vars false W args.toList ds gs before) :
    Calls Try.prog 4 args W fun e W' => ∃ v, e = .returned v ∧ Rows.metaTakesSpec.post enc Try.prog Try.f4 false true false false W args v W' := by
  have hW' := hW
  have hlt : ∀ x ∈ before, x.block < W.heap.size := fun x hx => hW.lt x hx
  obtain ⟨p, q, hA0, hV, rfl, _, _⟩ := hW
  have hA : DataW.TrodAll enc Try.prog W 0 (fun _ => true) true Try.f4.params.toList args.toList ds p := hA0
  rw [Try.params4] at hA hval
  obtain ⟨v0, vs0, d0, ds0, p0, q0, hargs, rfl, rfl, h0, r0⟩ := trodAll_cons hA
  obtain ⟨v1, vs1, d1, ds1, p1, q1, rfl, rfl, rfl, h1, r1⟩ := trodAll_cons r0
  obtain ⟨rfl, rfl, rfl⟩ := trodAll_nil r1
  obtain rfl : args = #[v0, v1] := by cases args; simp_all
  obtain ⟨rfl, rfl⟩ := trodVars_none hV
  clear hA0
  obtain ⟨j0, i0, g0, p0, rfl, bj0, bi0, bg0, bp0⟩ := open_geo (hval 0 23 v0 rfl rfl) h0
  obtain ⟨A1, n1, c1, L1, l1, rfl, hn1, hc1, hm1, hs1⟩ := open_secs (hval 1 35 v1 rfl rfl) h1 (fun x hx => hlt x (by simp [hx]))
  unfold maxLen at hm1
  refine (takes_walk j0 i0 g0 p0 l1 A1 n1 c1 L1 W hn1 hc1 hs1).mono fun e W' ⟨he, hb⟩ => ?_
  subst he
  exact ⟨_, rfl, law_post laid (by kernel_rfl) Try.underlying4 (by rw [Try.params4]; decide +kernel) rfl hW' ⟨rfl, rfl, rfl⟩ hb⟩

set_option maxRecDepth 100000 in
theorem takes_lifted (os : Os) (started : os.Started) (H : Type) (enc : TypeId × Value → H) :
    ReturnsInHanded {} Try.checked os 4 .any (Rows.metaTakesSpec.pre6 enc Try.prog Try.f4 Rows.metaTakesRow.domain false) (Rows.metaTakesSpec.post enc Try.prog Try.f4 false true false false) := by
  refine returnsInHanded_of_change (C := Try.checked) own started (by kernel_rfl) Try.func4
    (ChangeSpec.witness6 (enc := enc) (C := Try.checked) false ⟨#[], #[.agg #[.int .i64 0, .int .i64 0, .int .i64 0, .int .i64 0], .slice none 0 0], []⟩ 8 (by kernel_rfl) (by kernel_rfl) (by kernel_rfl) (by kernel_rfl)) ?_
  intro W base args ds gs before hval hW _ _
  exact takes_contract H enc W base args ds gs before hval hW

/-- MetaTakes is true for every input. -/
theorem takes_holds : Rows.MetaTakesSaid :=
  OpenClaim.holds_of_wide 4 Try.f4 rfl rfl rfl rfl rfl rfl rfl ⟨rfl, rfl, rfl, rfl, rfl⟩ rfl rfl rfl rfl rfl (by kernel_rfl) Try.func4 (by kernel_rfl)
    (of_decide_eq_true (by kernel_rfl)) (by unfold Func.isWrapper; first | (rw [if_pos (by decide +kernel)]; kernel_rfl) | (rw [if_neg (by decide +kernel)]; exact ⟨rfl, rfl⟩))
    (fun os started H enc _ => takes_lifted os started H enc)
end Go.Proofs.Ytaflpigpeckhoaa
