/-
  The entry of bytes: the document's Take.
-/
import Derived.Test.YtlopndnjkphdnaaEntryX5
namespace Go.Proofs.Ytlopndnjkphdnaa.Entry
open Go.RowKit

theorem takS_long {b : List UInt8} (hf : (b == zeros16) = false) (h : 13 < (b.getD 0 0).toNat) : takS hsh b = none := by
  cases ht : takS hsh b with
  | none => rfl
  | some s =>
    obtain ⟨h1, h2⟩ := slot_tak ht
    cases s with
    | none =>
      have : b = zeros16 := h2.symm
      rw [this] at hf
      simp at hf
    | some x =>
      have hx := h1 x rfl
      have hl := name_len hx.name
      have h3 : entB hsh x = b := h2
      rw [← h3, entB_eq] at h
      have e2 : (UInt8.ofNat x.n.length).toNat = x.n.length := by simp; omega
      have h4 : 13 < (UInt8.ofNat x.n.length).toNat := h
      omega
set_option maxHeartbeats 1600000 in
set_option maxRecDepth 100000 in
theorem rtake_any (l : List UInt8) (A : Option Addr) (n c : Nat) (w : World) (hn : l.length = n) (hr : Rd w w.heap.size A (bytesV l)) (hc : n ≤ c) :
    Calls Try.prog 15 #[.slice A n c] w fun e w' => HandsT w (takS hsh l) e w' := by
  have Hn := Lib.hid hn
  have Hr := Lib.hid hr
  have hmk := make16
  obtain ⟨R, hR⟩ : ∃ R, R = takS hsh l := ⟨_, rfl⟩
  rw [← hR]
  have HR := Lib.hid hR
  clear hR
  go_enter Try.func15, Try.ntmps15
  go_wp2
  have hb1 := alloc_below w (.cells #[.string ⟨#[]⟩, .int .i64 0] 23)
  have hr0 := Bk.new w 23 [.string ⟨#[]⟩, .int .i64 0]
  have HB1 := Lib.hid hb1
  have HR0 := Lib.hid (show Bk (w.alloc (.cells #[.string ⟨#[]⟩, .int .i64 0] 23)) w.heap.size 23 [.string ⟨#[]⟩, .int .i64 0] from hr0)
  have hs0 := HR0.out.lt
  clear hb1 hr0
  generalize w.alloc (.cells #[.string ⟨#[]⟩, .int .i64 0] 23) = w1 at *
  have hA : (convert 24 9 (.slice A n c)).run Try.prog w1.drew = .ok (.string ⟨l.toArray⟩) w1.drew := str_of Hn.out (Hr.out.below (below_drew HB1.out))
  have hB : (convert 24 9 (.slice A n c)).run Try.prog (w1.alloc (.cells (bytesV zeros16).toArray 5)).drew = .ok (.string ⟨l.toArray⟩) (w1.alloc (.cells (bytesV zeros16).toArray 5)).drew := str_of Hn.out (Hr.out.below (below_drew (HB1.out.trans ((alloc_below w1 _).mono (Nat.le_of_lt hs0)))))
  have hC : (convert 24 9 (.slice (some ⟨w1.heap.size, 0, none⟩) 16 16)).run Try.prog (w1.alloc (.cells (bytesV zeros16).toArray 5)).drew = .ok (.string ⟨zeros16.toArray⟩) (w1.alloc (.cells (bytesV zeros16).toArray 5)).drew := str_of zeros_len (show Rd (w1.alloc _).drew (w1.heap.size + 1) _ _ from zeros_rd w1)
  apply part_goal
  · intro key
    go_region
    all_goals exact key.out
  have hbA := below_drew (alloc_below w1 (.cells (bytesV zeros16).toArray 5))
  have HR2 := Lib.hid (HR0.out.below hbA hs0)
  have HB2 := Lib.hid (HB1.out.trans (hbA.mono (Nat.le_of_lt hs0)))
  have hs2 : w.heap.size < (w1.alloc (.cells (bytesV zeros16).toArray 5)).drew.heap.size := HR2.out.lt
  clear hbA hA hB hC hmk HB1 HR0
  generalize (w1.alloc (.cells (bytesV zeros16).toArray 5)).drew = W at *
  generalize w1.heap.size = gz at *
  have HRW := Lib.hid (Hr.out.below HB2.out)
  obtain ⟨x0, x1, y0, y1⟩ := ent_all HR2.out
  cases hf : (l == zeros16)
  · by_cases h16 : n = 16
    · subst h16
      obtain ⟨b, o, rfl, hbB⟩ := rd_at hr (bytesV_ne hn (by omega))
      have hc0 := rd_get HRW.out 0 (by omega)
      have hc2 := rd_get HRW.out 2 (by omega)
      rw [Nat.add_zero] at hc0
      obtain ⟨x, hxe⟩ : ∃ x : Nat, (l.getD 0 0).toNat = x := ⟨_, rfl⟩
      obtain ⟨k, hke⟩ : ∃ k : Nat, (l.getD 2 0).toNat = k := ⟨_, rfl⟩
      rw [hxe] at hc0
      rw [hke] at hc2
      have hx256 := (l.getD 0 0).toNat_lt
      have hk256 := (l.getD 2 0).toNat_lt
      rw [hxe] at hx256
      rw [hke] at hk256
      by_cases h13 : (x : Int) ≤ 13
      · have h13n : ¬ 13 < (x : Int) := by omega
        have hnl : (nameL l).length = x := by unfold nameL; rw [hxe, List.length_take, List.length_drop]; omega
        have HT := Lib.hid (takS_yes (b := l))
        have HTN := Lib.hid (takS_no (b := l) hf)
        rw [hke] at HT HTN
        have HLA := Lib.hid (fun w => rlay_any ⟨(nameL l).toArray⟩ (k : Int) w)
        have hdl : (⟨(nameL l).toArray⟩ : ByteArray).data.toList = nameL l := rfl
        rw [hdl] at HLA
        have hpart : nameL l = (l.drop 3).take (min (l.getD 0 0).toNat 13) := rfl
        have HCV := Lib.hid (fun (W' : World) (hW' : Rd W' w.heap.size (some ⟨b, o, none⟩) (bytesV l)) => str_of (c := c - 3) hnl (hpart ▸ rd_part hW' 3 (min (l.getD 0 0).toNat 13)))
        generalize nameL l = nm at *
        have hkk : IntKind.i64.wrap (k : Int) = (k : Int) := by rw [IntKind.wrap_i64]; omega
        have hxx : IntKind.i64.wrap (x : Int) = (x : Int) := by rw [IntKind.wrap_i64]; omega
        have h3x : IntKind.i64.wrap (3 + (x : Int)) = 3 + (x : Int) := by rw [IntKind.wrap_i64]; omega
        clear hn hr hxe hke hdl hf hpart
        go_wp2_with fail
        have hbs : b < W.heap.size := by omega
        have HSD := Lib.hid (show W.drew.cell? ⟨b, o, none⟩ = some (.int .u8 (x : Int)) ∧ W.drew.cell? ⟨b, o + 2, none⟩ = some (.int .u8 (k : Int)) ∧ (convert 24 9 (.slice (some ⟨b, o + 3, none⟩) x (c - 3))).run Try.prog W.drew = .ok (.string ⟨nm.toArray⟩) W.drew from ⟨hc0, hc2, HCV.out _ (Hr.out.below (below_drew HB2.out))⟩)
        have HSA := Lib.hid (fun o' => show (W.alloc o').drew.cell? ⟨b, o, none⟩ = some (.int .u8 (x : Int)) ∧ (W.alloc o').drew.cell? ⟨b, o + 2, none⟩ = some (.int .u8 (k : Int)) ∧ (convert 24 9 (.slice (some ⟨b, o + 3, none⟩) x (c - 3))).run Try.prog (W.alloc o').drew = .ok (.string ⟨nm.toArray⟩) (W.alloc o').drew from ⟨((alloc_below W o').cell (p := ⟨b, o, none⟩) hbs).trans hc0, ((alloc_below W o').cell (p := ⟨b, o + 2, none⟩) hbs).trans hc2, HCV.out _ (Hr.out.below (below_drew (HB2.out.trans ((alloc_below W o').mono (Nat.le_of_lt hs2)))))⟩)
        have hx0 : (0 : Int) ≤ (x : Int) := by omega
        have h3s : 3 + x - 3 = x := by omega
        have h3t : (3 + (x : Int)).toNat - 3 = x := by omega
        have h3c : 3 + (x : Int) ≤ (c : Int) := by omega
        have h33 : (3 : Int) ≤ 3 + (x : Int) := by omega
        have hc3 : ¬ c = 3 := by omega
        have hc3i : ¬ (c : Int) = 3 := by omega
        have h3u : (3 + (x : Int)).toNat = 3 + x := by omega
        apply part_goal
        · intro key
          go_region_held3 (fun u => u.cell? ⟨b, o, none⟩ = some (.int .u8 (x : Int)) ∧ u.cell? ⟨b, o + 2, none⟩ = some (.int .u8 (k : Int)) ∧ (convert 24 9 (.slice (some ⟨b, o + 3, none⟩) x (c - 3))).run Try.prog u = .ok (.string ⟨nm.toArray⟩) u)
            (first | with_reducible exact HSD.out | with_reducible exact HSA.out _)
            (fail)
          all_goals exact key.out
        have hbA := alloc_below W (.cells #[.string ⟨nm.toArray⟩, .int .i64 (k : Int)] 23)
        have hk := Bk.new W 23 [.string ⟨nm.toArray⟩, .int .i64 (k : Int)]
        have HK := Lib.hid (show Bk (W.alloc (.cells #[.string ⟨nm.toArray⟩, .int .i64 (k : Int)] 23)).drew W.heap.size 23 [.string ⟨nm.toArray⟩, .int .i64 (k : Int)] from hk)
        have HR3 := Lib.hid (show Bk (W.alloc (.cells #[.string ⟨nm.toArray⟩, .int .i64 (k : Int)] 23)).drew w.heap.size 23 [.string ⟨#[]⟩, .int .i64 0] from HR2.out.below (below_drew hbA) hs2)
        have HB3 := Lib.hid (below_drew (HB2.out.trans (hbA.mono (Nat.le_of_lt hs2))))
        have hsz2 : W.heap.size < (W.alloc (.cells #[.string ⟨nm.toArray⟩, .int .i64 (k : Int)] 23)).drew.heap.size := HK.out.lt
        clear hbA hk HSD HSA HB2 HR2 HCV hc0 hc2 x0 x1 y0 y1 hbs HRW
        generalize (W.alloc (.cells #[.string ⟨nm.toArray⟩, .int .i64 (k : Int)] 23)).drew = W2 at *
        generalize W.heap.size = g at *
        obtain ⟨c0, c1⟩ := ent_cells HK.out
        by_cases hA : nameB nm = true ∧ k < 64
        · have hle := layE_yes (H := hsh) hA.1 (i := (k : Int)) (by omega)
          rw [Int.toNat_natCast] at hle
          rw [hle] at HLA
          have HLen := Lib.hid (length_entB (H := hsh) (x := ⟨nm, k⟩) ⟨hA.1, hA.2⟩)
          cases hbe : (l == entB hsh ⟨nm, k⟩)
          · have HP := Lib.hid (HR.out.trans (HTN.out (fun h => by rw [hbe] at h; exact absurd h.2.2 (by decide))))
            have HBE := Lib.hid hbe
            generalize entB hsh ⟨nm, k⟩ = out at *
            have hbe2 : (out == l) = false := by rw [Bool.beq_comm]; exact HBE.out
            clear hA hle hbe HT HTN HR
            go_wp2_with (first
              | (go_at_call 12; (with_reducible refine (HLA.out _).mono ?_); rintro e w3 ⟨v3, he, hown3, hb3⟩; obtain rfl := he; rw [HLen.out] at hown3; obtain ⟨-, A3, c3, hv3, -, -, hr3⟩ := own_rd hown3; subst hv3; obtain ⟨x0, x1, y0, y1⟩ := ent_all (HR3.out.below hb3 HR3.out.lt); obtain ⟨p0, p1, -, -⟩ := ent_all (HK.out.below hb3 hsz2); have hY := str_of (c := c3) HLen.out hr3; have hL := str_of (c := c) Hn.out (Hr.out.below (HB3.out.trans (hb3.mono HB3.out.size))); have HB4 := Lib.hid hb3; clear hown3 hr3 hb3))
            have hfin := ((HB3.out.trans (HB4.out.mono HB3.out.size)).setCell (p := ⟨w.heap.size, 0, none⟩) (Nat.le_refl _) (.string ⟨#[]⟩)).setCell (p := ⟨w.heap.size, 1, none⟩) (Nat.le_refl _) (.int .i64 0)
            exact bodyPost_ret (v := slotV none) (by simp [results, Try.results15, go_sem, slotV, entV, x0, x1]) rfl ⟨by rw [HP.out], hfin⟩
          · have HP := Lib.hid (HR.out.trans (HT.out hA.1 hA.2 hbe))
            have HBE := Lib.hid hbe
            generalize entB hsh ⟨nm, k⟩ = out at *
            have hbe2 : (out == l) = true := by rw [Bool.beq_comm]; exact HBE.out
            clear hA hle hbe HT HTN HR
            go_wp2_with (first
              | (go_at_call 12; (with_reducible refine (HLA.out _).mono ?_); rintro e w3 ⟨v3, he, hown3, hb3⟩; obtain rfl := he; rw [HLen.out] at hown3; obtain ⟨-, A3, c3, hv3, -, -, hr3⟩ := own_rd hown3; subst hv3; obtain ⟨x0, x1, y0, y1⟩ := ent_all (HR3.out.below hb3 HR3.out.lt); obtain ⟨p0, p1, -, -⟩ := ent_all (HK.out.below hb3 hsz2); have hY := str_of (c := c3) HLen.out hr3; have hL := str_of (c := c) Hn.out (Hr.out.below (HB3.out.trans (hb3.mono HB3.out.size))); have HB4 := Lib.hid hb3; clear hown3 hr3 hb3))
            have hfin := ((HB3.out.trans (HB4.out.mono HB3.out.size)).setCell (p := ⟨w.heap.size, 0, none⟩) (Nat.le_refl _) (.string ⟨nm.toArray⟩)).setCell (p := ⟨w.heap.size, 1, none⟩) (Nat.le_refl _) (.int .i64 (k : Int))
            exact bodyPost_ret (v := slotV (some (some ⟨nm, k⟩))) (by simp [results, Try.results15, go_sem, slotV, entV, x0, x1]) rfl ⟨by rw [HP.out], hfin⟩
        · have HP := Lib.hid (HR.out.trans (HTN.out (fun h => hA ⟨h.1, h.2.1⟩)))
          cases hNn : nameB nm
          · rw [layE_name hNn] at HLA
            clear HT HTN hA hNn HR
            go_wp2_with (first
              | (go_at_call 12; (with_reducible refine (HLA.out _).mono ?_); rintro e w3 ⟨v3, he, hown3, hb3⟩; obtain rfl := he; obtain ⟨x0, x1, y0, y1⟩ := ent_all (HR3.out.below hb3 HR3.out.lt); have HB4 := Lib.hid hb3; clear hown3 hb3))
            have hfin := ((HB3.out.trans (HB4.out.mono HB3.out.size)).setCell (p := ⟨w.heap.size, 0, none⟩) (Nat.le_refl _) (.string ⟨#[]⟩)).setCell (p := ⟨w.heap.size, 1, none⟩) (Nat.le_refl _) (.int .i64 0)
            exact bodyPost_ret (v := slotV none) (by simp [results, Try.results15, go_sem, slotV, entV, x0, x1]) rfl ⟨by rw [HP.out], hfin⟩
          · have hk64 : ¬ ((0 : Int) ≤ (k : Int) ∧ (k : Int) < 64) := fun h => hA ⟨hNn, by omega⟩
            rw [layE_ino hNn hk64] at HLA
            clear HT HTN hA hNn hk64 HR
            go_wp2_with (first
              | (go_at_call 12; (with_reducible refine (HLA.out _).mono ?_); rintro e w3 ⟨v3, he, hown3, hb3⟩; obtain rfl := he; obtain ⟨x0, x1, y0, y1⟩ := ent_all (HR3.out.below hb3 HR3.out.lt); have HB4 := Lib.hid hb3; clear hown3 hb3))
            have hfin := ((HB3.out.trans (HB4.out.mono HB3.out.size)).setCell (p := ⟨w.heap.size, 0, none⟩) (Nat.le_refl _) (.string ⟨#[]⟩)).setCell (p := ⟨w.heap.size, 1, none⟩) (Nat.le_refl _) (.int .i64 0)
            exact bodyPost_ret (v := slotV none) (by simp [results, Try.results15, go_sem, slotV, entV, x0, x1]) rfl ⟨by rw [HP.out], hfin⟩
      · have HP := Lib.hid (HR.out.trans (takS_long hf (by omega)))
        have h13n : 13 < (x : Int) := by omega
        clear hn hr hf h13
        go_wp2
        have hfin := ((HB2.out).setCell (p := ⟨w.heap.size, 0, none⟩) (Nat.le_refl _) (.string ⟨#[]⟩)).setCell (p := ⟨w.heap.size, 1, none⟩) (Nat.le_refl _) (.int .i64 0)
        exact bodyPost_ret (v := slotV none) (by simp [results, Try.results15, go_sem, slotV, entV, x0, x1]) rfl ⟨by rw [HP.out], hfin⟩
    · have h16z : ((n : Int) != 16) = true := by simp; omega
      have HP := Lib.hid (HR.out.trans (takS_len (by omega)))
      clear hn hr
      go_wp2
      have hfin := ((HB2.out).setCell (p := ⟨w.heap.size, 0, none⟩) (Nat.le_refl _) (.string ⟨#[]⟩)).setCell (p := ⟨w.heap.size, 1, none⟩) (Nat.le_refl _) (.int .i64 0)
      exact bodyPost_ret (v := slotV none) (by simp [results, Try.results15, go_sem, slotV, entV, x0, x1]) rfl ⟨by rw [HP.out], hfin⟩
  · have HP := Lib.hid (HR.out.trans (takS_free hf))
    clear hn hr
    go_wp2
    have hfin := ((HB2.out).setCell (p := ⟨w.heap.size, 0, none⟩) (Nat.le_refl _) (.string ⟨#[]⟩)).setCell (p := ⟨w.heap.size, 1, none⟩) (Nat.le_refl _) (.int .i64 0)
    exact bodyPost_ret (v := slotV (some none)) (by simp [results, Try.results15, go_sem, slotV, entV, x0, x1]) rfl ⟨by rw [HP.out], hfin⟩
end Go.Proofs.Ytlopndnjkphdnaa.Entry
