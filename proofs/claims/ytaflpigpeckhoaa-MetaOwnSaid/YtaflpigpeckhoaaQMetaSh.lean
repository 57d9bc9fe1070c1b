/-
  The document's examples, as the statements show them at their head.
-/
import Derived.Test.YtaflpigpeckhoaaQMetaX12
import Derived.Test.YtaflpigpeckhoaaQMetaX3
import Derived.Test.YtaflpigpeckhoaaQMetaO
import Derived.Test.YtaflpigpeckhoaaQMetaE
namespace Go.Proofs.Ytaflpigpeckhoaa.Meta
open Go.Proofs.Ytaflpigpeckhoaa
open Go.RowKit

theorem valid_shown : Geo.Ok ⟨20, 8, 2, 4⟩ := by constructor <;> decide
/-- Four slices, written into a variable just made. -/
theorem bk_var {w : World} (v0 v1 v2 v3 : Value) : Bk ((w.alloc (.cells #[.slice none 0 0, .slice none 0 0, .slice none 0 0, .slice none 0 0] 29)).setCells w.heap.size 0 [v0, v1, v2, v3]) w.heap.size 29 [v0, v1, v2, v3] :=
  ((((Bk.new w 29 [.slice none 0 0, .slice none 0 0, .slice none 0 0, .slice none 0 0]).set 0 v0).set 1 v1).set 2 v2).set 3 v3
theorem below_var {w : World} (v0 v1 v2 v3 : Value) : Below w.heap.size w ((w.alloc (.cells #[.slice none 0 0, .slice none 0 0, .slice none 0 0, .slice none 0 0] 29)).setCells w.heap.size 0 [v0, v1, v2, v3]) :=
  below_setCells (Nat.le_refl _) _ 0 (al_below w _)
theorem size_met : (Try.prog.info? 29).map (·.size) = some 4 := by kernel_rfl
theorem there_var (w : World) : (w.alloc (.cells #[.slice none 0 0, .slice none 0 0, .slice none 0 0, .slice none 0 0] 29)).there w.heap.size 0 4 := there_new w [.slice none 0 0, .slice none 0 0, .slice none 0 0, .slice none 0 0] 29 4 rfl
theorem newM_shown : (newM ⟨20, 8, 2, 4⟩).rows.length = 16 ∧ (newM ⟨20, 8, 2, 4⟩).own.length = 2 ∧ (newM ⟨20, 8, 2, 4⟩).used.length = 64 ∧ (newM ⟨20, 8, 2, 4⟩).ino.length = 8 := ⟨rfl, rfl, rfl, rfl⟩
theorem layM_shown : layM ⟨20, 8, 2, 4⟩ (newM ⟨20, 8, 2, 4⟩) = (List.replicate 7 zero64, 0) := by
  rw [lay_yes (newM_right valid_shown), secs_new valid_shown]
  rfl
theorem HandsM.got {w w' : World} {m : Met} {k n0 n1 n2 n3 : Nat} {e : Ending} (h : HandsM w (m, k) e w') (h0 : m.rows.length = n0) (h1 : m.own.length = n1) (h2 : m.used.length = n2) (h3 : m.ino.length = n3) :
    ∃ A0 k0 A1 k1 A2 k2 A3 k3, e = .returned (.tuple #[.agg #[.slice A0 n0 k0, .slice A1 n1 k1, .slice A2 n2 k2, .slice A3 n3 k3], .int .i64 (k : Int)]) ∧ OwnM w' w.heap.size ⟨A0, k0, A1, k1, A2, k2, A3, k3⟩ m ∧ Below w.heap.size w w' := by
  obtain ⟨⟨A0, k0, A1, k1, A2, k2, A3, k3⟩, he, ho, hb⟩ := h
  subst h0 h1 h2 h3
  exact ⟨A0, k0, A1, k1, A2, k2, A3, k3, he, ho, hb⟩
theorem length_zero64 : zero64.length = 64 := rfl
theorem rd_zero {u : World} {g : Nat} (h : Bk u g 5 (bytesV zero64)) : Rd u u.heap.size (some ⟨g, 0, none⟩) (bytesV zero64) := by
  have := h.rd 64 0
  rwa [List.drop_zero, List.take_of_length_le (by rw [length_bytesV, length_zero64]; exact Nat.le_refl _)] at this
theorem make_zero (u : World) : (Instr.makeSlice 26 (.int .i64 64) (.int .i64 64)).run Try.prog u = .ok (.slice (some ⟨u.heap.size, 0, none⟩) 64 64) (u.alloc (.cells (bytesV zero64).toArray 5)) := make_bytes 64 (by omega) u

set_option maxRecDepth 100000 in
set_option maxHeartbeats 1600000 in
theorem shown_any (w : World) : Calls Try.prog 9 #[] w fun e w' => e = .returned (.bool true) ∧ Below w.heap.size w w' := by
  have HNEW : Hid (∀ u : World, Calls Try.prog 11 #[.agg #[.int .i64 20, .int .i64 8, .int .i64 2, .int .i64 4]] u fun e w' => HandsM u (newM ⟨20, 8, 2, 4⟩, 0) e w') := Lib.hid (fun u => by
    have := new_any ⟨20, 8, 2, 4⟩ u
    rwa [newP_yes valid_shown] at this)
  have HLAY : Hid (∀ (u : World) (A0 A1 A2 A3 : Option Addr) (k0 k1 k2 k3 : Nat), Lies u u.heap.size ⟨A0, k0, A1, k1, A2, k2, A3, k3⟩ (newM ⟨20, 8, 2, 4⟩) → Calls Try.prog 13 #[.agg #[.int .i64 20, .int .i64 8, .int .i64 2, .int .i64 4], .agg #[.slice A0 16 k0, .slice A1 2 k1, .slice A2 64 k2, .slice A3 8 k3]] u fun e w' => HandsL u (List.replicate 7 zero64, 0) e w') := Lib.hid (fun u A0 A1 A2 A3 k0 k1 k2 k3 hl => by
    have := lay_in 20 8 2 4 (newM ⟨20, 8, 2, 4⟩) (newM_okm _) A0 A1 A2 A3 16 k0 2 k1 64 k2 8 k3 u rfl rfl rfl rfl hl (by decide)
    rwa [layM_shown] at this)
  have hg := geo_box w 20 8 2 4
  go_enter Try.func9, Try.ntmps9
  go_upto_region 2 with fail
  have HG0 : Hid (Bk (w.alloc (.cells #[.int .i64 20, .int .i64 8, .int .i64 2, .int .i64 4] 23)) w.heap.size 23 [.int .i64 20, .int .i64 8, .int .i64 2, .int .i64 4]) := Lib.hid hg
  have HB0 : Hid (Below w.heap.size w (w.alloc (.cells #[.int .i64 20, .int .i64 8, .int .i64 2, .int .i64 4] 23))) := Lib.hid (al_below w _)
  generalize (w.alloc (.cells #[.int .i64 20, .int .i64 8, .int .i64 2, .int .i64 4] 23)) = w0 at *
  obtain ⟨g0, g1, g2, g3⟩ := four_cells HG0.out
  clear hg
  go_upto_region 9 with (first
    | (go_at_call 11; (with_reducible refine (HNEW.out _).mono ?_); rintro e w1 hh; obtain ⟨A0, k0, A1, k1, A2, k2, A3, k3, he, ho, hb⟩ := hh.got newM_shown.1 newM_shown.2.1 newM_shown.2.2.1 newM_shown.2.2.2; obtain rfl := he; have HO1 := Lib.hid ho; have HB1 := Lib.hid (HB0.out.trans (hb.mono HB0.out.size)); have HG1 := Lib.hid (HG0.out.below hb HG0.out.lt); clear ho hb g0 g1 g2 g3; obtain ⟨g0, g1, g2, g3⟩ := four_cells HG1.out; have hltg := HG1.out.lt)
    | (go_at_call 13; (with_reducible refine (HLAY.out _ _ _ _ _ _ _ _ _ (HO1.out.lies.later (al_below w1 _))).mono ?_); rintro e w3 hh; obtain ⟨A, cc, L, he, -, -, -, hsa, hb⟩ := hh.got; obtain rfl := he; have HAT := Lib.hid hsa; have HB3 := Lib.hid (HB1.out.trans (((al_below w1 _).trans (hb.mono (al_below w1 _).size)).mono HB1.out.size)); have HV3 := Lib.hid ((Bk.new w1 29 [.slice A0 16 k0, .slice A1 2 k1, .slice A2 64 k2, .slice A3 8 k3]).below hb (by simp)); clear hb hsa g0 g1 g2 g3 hltg; obtain ⟨m0, m1, m2, m3⟩ := four_cells HV3.out))
  clear m0 m1 m2 m3
  have hmk := make_zero
  obtain ⟨Z, hZ⟩ : ∃ Z : ByteArray, Z = ⟨zero64.toArray⟩ := ⟨_, rfl⟩
  have HZS : Hid (∀ (u : World) (g : Nat), Bk u g 5 (bytesV zero64) → (convert 26 9 (.slice (some ⟨g, 0, none⟩) 64 64)).run Try.prog u = .ok (.string Z) u) := Lib.hid (fun u g h => by rw [hZ]; exact str_sec length_zero64 (rd_zero h))
  have HZ := Lib.hid hZ
  clear hZ
  go_loopw [6, 56] (fun _ k wr => ∃ a : Nat, k = .int .i64 (a : Int) ∧ a ≤ 7 ∧ Hid (Below w3.heap.size w3 wr)) (fun _ k _ => 7 - (intOf k).toNat)
  case atStart => exact ⟨0, rfl, Nat.zero_le _, Lib.hid (Below.refl _ _)⟩
  case round =>
    obtain ⟨a, rfl, ha, HB⟩ := hrel
    by_cases hlt : a < 7
    · have hla : (List.replicate 7 zero64)[a]? = some zero64 := by rw [List.getElem?_replicate, if_pos hlt]
      obtain ⟨b, o, hA, -⟩ := HAT.out.first (by simp)
      subst hA
      obtain ⟨S, hLa, -, hrs, -, -⟩ := HAT.out.get hla
      obtain ⟨sA, sc⟩ := S
      have HCE : Hid (∀ u : World, Below w3.heap.size w3 u → u.cell? ⟨b, o + a, none⟩ = some (.slice sA 64 sc) ∧ (convert 26 9 (.slice sA 64 sc)).run Try.prog u = .ok (.string Z) u) := Lib.hid (fun u hu => by
        obtain ⟨T, hT, hc, hr, -, -⟩ := (HAT.out.below hu).get hla
        rw [hLa] at hT
        injection hT with hT
        subst hT
        exact ⟨hc, by rw [HZ.out]; exact str_sec length_zero64 hr⟩)
      have hlti : (a : Int) < 7 := by omega
      have ha0 : (0 : Int) ≤ (a : Int) := by omega
      clear hla hLa hrs
      go_wp2_with fail
      have hS0 : Below w3.heap.size w3 wr.drew := HB.out.drew
      refine wp_region_held_drew (S := fun u => Below w3.heap.size w3 u) (by kernel_rfl) hS0 (fun hHeld => ?_)
      refine wpAnyH_take (i := 0) (oi := _) (v := ?_) (by simp only [List.getElem?_toArray, List.getElem?_cons_zero]; rfl) (by kernel_rfl) (by kernel_rfl) (by kernel_rfl) (by exact fun _ _ _ h => h) (Or.inl ⟨by rfl, ?hyz0⟩) (by exact hHeld) ?rez0
      case hyz0 => (intro u hu; obtain ⟨q0, q1⟩ := HCE.out _ hu; clear hu; go_simp <;> with_reducible rfl)
      try simp only [Act.put, List.setIfInBounds_toArray, List.set_cons_zero, List.set_cons_succ]
      refine wpAnyH_take (i := 1) (oi := _) (v := ?_) (by simp only [List.getElem?_toArray, List.getElem?_cons_succ, List.getElem?_cons_zero]; rfl) (by kernel_rfl) (by kernel_rfl) (by kernel_rfl) (by exact fun _ _ _ h => h) (Or.inl ⟨by rfl, ?hyz1⟩) (by exact hHeld) ?rez1
      case hyz1 => (intro u hu; obtain ⟨q0, q1⟩ := HCE.out _ hu; clear hu; go_simp <;> with_reducible rfl)
      try simp only [Act.put, List.setIfInBounds_toArray, List.set_cons_zero, List.set_cons_succ]
      refine wpAnyH_take (i := 2) (oi := _) (v := ?_) (by simp only [List.getElem?_toArray, List.getElem?_cons_succ, List.getElem?_cons_zero]; rfl) (by kernel_rfl) (by kernel_rfl) (by kernel_rfl) (by exact fun _ _ _ h => h) (Or.inl ⟨by rfl, ?hyz2⟩) (by exact hHeld) ?rez2
      case hyz2 => (intro u hu; obtain ⟨q0, q1⟩ := HCE.out _ hu; clear hu; go_simp <;> with_reducible rfl)
      try simp only [Act.put, List.setIfInBounds_toArray, List.set_cons_zero, List.set_cons_succ]
      refine wpAnyH_take (i := 3) (oi := _) (v := ?_) (by simp only [List.getElem?_toArray, List.getElem?_cons_succ, List.getElem?_cons_zero]; rfl) (by kernel_rfl) (by kernel_rfl) (by kernel_rfl) (by exact fun _ _ _ h => h) (Or.inl ⟨by rfl, ?hyz3⟩) (by exact hHeld) ?rez3
      case hyz3 => (intro u hu; obtain ⟨q0, q1⟩ := HCE.out _ hu; clear hu; go_simp <;> with_reducible rfl)
      try simp only [Act.put, List.setIfInBounds_toArray, List.set_cons_zero, List.set_cons_succ]
      refine wpAnyH_take (i := 4) (oi := _) (v := ?_) (by simp only [List.getElem?_toArray, List.getElem?_cons_succ, List.getElem?_cons_zero]; rfl) (by kernel_rfl) (by kernel_rfl) (by kernel_rfl) (by exact fun _ _ _ h => h) (Or.inl ⟨by rfl, ?hyz4⟩) (by exact hHeld) ?rez4
      case hyz4 => (intro u hu; obtain ⟨q0, q1⟩ := HCE.out _ hu; clear hu; go_simp <;> with_reducible rfl)
      try simp only [Act.put, List.setIfInBounds_toArray, List.set_cons_zero, List.set_cons_succ]
      clear hS0
      generalize wr.drew = wd at *
      refine wpAnyH_ready (rs := [5]) (by kernel_rfl) (by simp) ?_
      refine AllReadyH.cons (o := _) (by simp only [List.getElem?_toArray, List.getElem?_cons_succ, List.getElem?_cons_zero]; rfl) (fun K hK => ?_) AllReadyH.nil
      go_simp
      have hS5 := hHeld.alloc hHeld.size (.cells (bytesV zero64).toArray 5)
      refine hK.out _ _ hS5 (fun hHeld2 => ?_)
      clear hK K
      refine held_strong (T := fun u => Below w3.heap.size w3 u ∧ Bk u wd.heap.size 5 (bytesV zero64)) (fun u h => h.1) _ _ _ _ ?_
      have hHeld : Below w3.heap.size w3 (wd.alloc (.cells (bytesV zero64).toArray 5)) ∧ Bk (wd.alloc (.cells (bytesV zero64).toArray 5)) wd.heap.size 5 (bytesV zero64) := ⟨hHeld2, Bk.new _ _ _⟩
      try simp only [Act.put, List.setIfInBounds_toArray, List.set_cons_zero, List.set_cons_succ]
      generalize wd.alloc (.cells (bytesV zero64).toArray 5) = wz at *
      refine wpAnyH_take (i := 6) (oi := _) (v := ?_) (by simp only [List.getElem?_toArray, List.getElem?_cons_succ, List.getElem?_cons_zero]; rfl) (by kernel_rfl) (by kernel_rfl) (by kernel_rfl) (by exact fun _ _ _ h => h) (Or.inl ⟨by rfl, ?hyz6⟩) (by exact hHeld) ?rez6
      case hyz6 => (intro u hu; have q2 := HZS.out _ _ hu.2; clear hu; go_simp <;> with_reducible rfl)
      try simp only [Act.put, List.setIfInBounds_toArray, List.set_cons_zero, List.set_cons_succ]
      refine wpAnyH_take (i := 7) (oi := _) (v := ?_) (by simp only [List.getElem?_toArray, List.getElem?_cons_succ, List.getElem?_cons_zero]; rfl) (by kernel_rfl) (by kernel_rfl) (by kernel_rfl) (by exact fun _ _ _ h => h) (Or.inl ⟨by rfl, ?hyz7⟩) (by exact hHeld) ?rez7
      case hyz7 => (intro u hu; clear hu; go_simp <;> with_reducible rfl)
      try simp only [Act.put, List.setIfInBounds_toArray, List.set_cons_zero, List.set_cons_succ]
      refine wpAnyH_done (by kernel_rfl) ?_ _
      have HB2 := Lib.hid hHeld.1
      clear hHeld hHeld2 hS5
      go_wp2
      go_roundw
      case rel => exact ⟨a + 1, by go_num, hlt, HB2⟩
      case measure => simp [intOf]; omega
    · obtain rfl : a = 7 := by omega
      go_wp2
      go_ret
      exact ⟨rfl, HB3.out.trans (HB.out.mono HB3.out.size)⟩
end Go.Proofs.Ytaflpigpeckhoaa.Meta
