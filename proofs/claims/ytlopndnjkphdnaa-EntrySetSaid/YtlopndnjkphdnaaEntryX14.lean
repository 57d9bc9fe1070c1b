/-
  A directory with an entry more: the document's Add.
-/
import Derived.Test.YtlopndnjkphdnaaEntryX12
import Derived.Test.YtlopndnjkphdnaaEntryX13
namespace Go.Proofs.Ytlopndnjkphdnaa.Entry
open Go.RowKit

theorem set3 {α : Type} (l : List α) (o : Nat) (a b c : α) (h : o + 3 ≤ l.length) : ((l.set o a).set (o + 1) b).set (o + 2) c = splice l o [a, b, c] := by
  obtain ⟨p, r, hp, rfl⟩ : ∃ p r, p.length = o ∧ l = p ++ r := ⟨l.take o, l.drop o, by simp; omega, (List.take_append_drop o l).symm⟩
  match r, h with
  | x :: y :: z :: r, _ =>
    subst hp
    unfold splice
    rw [List.set_append_right _ _ (Nat.le_refl _), Nat.sub_self, List.set_append_right _ _ (by omega), List.set_append_right _ _ (by omega)]
    rw [show p.length + 1 - p.length = 1 by omega, show p.length + 2 - p.length = 2 by omega, List.take_left, show p.length + [a, b, c].length = p.length + 3 from rfl, List.drop_length_add_append]
    rfl
  | [], h => exact absurd h (by simp; omega)
  | [x], h => exact absurd h (by simp; omega)
  | [x, y], h => exact absurd h (by simp; omega)
/-- A place of a row of one's own. -/
theorem slot_own {w : World} {base g c n : Nat} {S : List Slot} (h : w.ownsRow base 69 3 (.slice (some ⟨g, 0, none⟩) n c) n (rowsG slotC S)) {i : Nat} {t : Slot} (ht : S[i]? = some t) :
    (w.cell? ⟨g, i * 3, none⟩ = some (.string ⟨(nmS t).toArray⟩) ∧ w.cell? ⟨g, i * 3 + 1, none⟩ = some (.int .i64 ((inS t : Nat) : Int)) ∧ w.cell? ⟨g, i * 3 + 2, none⟩ = some (.bool t.isSome)) ∧
    w.frozen? ⟨g, i * 3, none⟩ = false ∧ w.frozen? ⟨g, i * 3 + 1, none⟩ = false ∧ w.frozen? ⟨g, i * 3 + 2, none⟩ = false := by
  have hr := own_rdkp (by omega) h
  have hrow : slotC t = [.string ⟨(nmS t).toArray⟩, .int .i64 ((inS t : Nat) : Int), .bool t.isSome] := by cases t <;> rfl
  have d0 := rd_slot hr ht (j := 0) (v := .string ⟨(nmS t).toArray⟩) (by rw [hrow]; rfl)
  have d1 := rd_slot hr ht (j := 1) (v := .int .i64 ((inS t : Nat) : Int)) (by rw [hrow]; rfl)
  have d2 := rd_slot hr ht (j := 2) (v := .bool t.isSome) (by rw [hrow]; rfl)
  rw [Nat.zero_add, Nat.add_zero] at d0
  rw [Nat.zero_add] at d1 d2
  exact ⟨⟨d0, d1, d2⟩, h.frozenAt _, h.frozenAt _, h.frozenAt _⟩
/-- A place of a row of one's own, written. -/
theorem slot_put {w w0 : World} {base g c n : Nat} {S : List Slot} (h : w.ownsRow base 69 3 (.slice (some ⟨g, 0, none⟩) n c) n (rowsG slotC S)) (hb : Below base w0 w) {i : Nat} (hi : i < S.length) (t : Slot) (a b d : Value) (ht : slotC t = [a, b, d]) :
    (((w.setCell ⟨g, i * 3, none⟩ a).setCell ⟨g, i * 3 + 1, none⟩ b).setCell ⟨g, i * 3 + 2, none⟩ d).ownsRow base 69 3 (.slice (some ⟨g, 0, none⟩) n c) n (rowsG slotC (S.set i t)) ∧
    Below base w0 (((w.setCell ⟨g, i * 3, none⟩ a).setCell ⟨g, i * 3 + 1, none⟩ b).setCell ⟨g, i * 3 + 2, none⟩ d) := by
  have hg : base ≤ g := (h.lt g rfl).1
  refine ⟨?_, ((hb.setCell hg _).setCell hg _).setCell hg _⟩
  rw [rowsG_set slotC_len hi, ht, ← set3 _ _ _ _ _ (by have := length_rowsG (f := slotC) slotC_len S; rw [this]; omega)]
  exact (((h.stored (i * 3) a).1.stored (i * 3 + 1) b).1.stored (i * 3 + 2) d).1
theorem hands_bytes {w w' : World} {base : Nat} {r : List UInt8 × Nat} {l : List UInt8} {v : Value} (hr : r = (l, 0)) (h : w'.ownsRow base 5 1 v l.length (bytesV l)) (hbase : w.heap.size ≤ base) (hb : Below w.heap.size w w') : Hands w r (.returned (.tuple #[v, .int .i64 0])) w' := by
  subst hr
  exact ⟨v, rfl, own_mono h hbase, hb⟩
theorem own_nil0 {w : World} {base : Nat} {e : TypeId} {k : Nat} {v : Value} {n : Nat} {xs : List Value} (h : w.ownsRow base e k v n xs) : ∃ A c, v = .slice A n c := by
  rcases h.2 with ⟨rfl, rfl⟩ | ⟨g, cap, cur, rfl, _⟩
  · exact ⟨none, 0, rfl⟩
  · exact ⟨_, cap, rfl⟩

set_option maxHeartbeats 3200000 in
set_option maxRecDepth 100000 in
theorem radd_any (l : List UInt8) (A : Option Addr) (n c : Nat) (s : ByteArray) (i : Int) (w : World) (hn : l.length = n) (hr : Rd w w.heap.size A (bytesV l)) (hc : n ≤ c) (hm : c ≤ maxLen) :
    Calls Try.prog 24 #[.slice A n c, .agg #[.string s, .int .i64 i]] w fun e w' => Hands w (addE hsh l s.data.toList i) e w' := by
  have HAL := Lib.hid (fun (W : World) (hW : Rd W W.heap.size A (bytesV l)) => rslots_any l A n c W hn hW hc hm)
  have HLA := Lib.hid (fun W => rlay_any s i W)
  have HFD := Lib.hid (fun (W : World) (hW : Rd W W.heap.size A (bytesV l)) => rfind_any l A n c s W hn hW hc hm)
  have Hr := Lib.hid hr
  have hb0 := alloc_below w (.cells #[.string s, .int .i64 i] 23)
  have HR0 := Lib.hid ((hr.below hb0).more hb0.size)
  have HB0 := Lib.hid hb0.size
  obtain ⟨R, hR⟩ : ∃ R, R = addE hsh l s.data.toList i := ⟨_, rfl⟩
  rw [← hR]
  cases hP : dirP hsh l with
  | none =>
    rw [hP] at HAL
    have HZ := Lib.hid (hR.trans (addE_dir hP))
    clear hn hr hP hc hm hb0 hR
    go_enter Try.func24, Try.ntmps24
    go_wp2_with (go_at_call 39; (with_reducible refine (HAL.out _ HR0.out).mono ?_); rintro e w1 ⟨v, he, hown, hb⟩; obtain rfl := he; obtain ⟨hk1, hb1, hs1⟩ := kept_ent hb; obtain ⟨a0, a1⟩ := ent_cells hk1; have HB1 := Lib.hid hb1; clear hown hb hb1; simp only [Option.isSome])
    go_ret2
    exact hands_nil HZ.out HB1.out
  | some S =>
    rw [hP] at HAL
    obtain ⟨hd, hde⟩ := dirP_iff.1 hP
    have hls := length_dirP hP
    rw [hn] at hls
    rw [findE_some hP] at HFD
    cases hN : nameB s.data.toList
    · have hle := layE_name (H := hsh) (i := i) hN
      rw [hle] at HLA
      have HZ := Lib.hid (hR.trans (addE_lay hP hle (by decide)))
      clear hn hr hP hc hm hb0 hR hd hde hls hN hle
      go_enter Try.func24, Try.ntmps24
      go_wp2_with (first
        | (go_at_call 39; (with_reducible refine (HAL.out _ HR0.out).mono ?_); rintro e w1 ⟨v1, he, hown, hb⟩; obtain rfl := he; obtain ⟨hk1, hb1, hs1⟩ := kept_ent hb; obtain ⟨a0, a1⟩ := ent_cells hk1; have HK1 := Lib.hid hk1; have HB1 := Lib.hid hb1; clear hown hb hb1 hk1; simp only [Option.isSome])
        | (go_at_call 12; (with_reducible refine (HLA.out _).mono ?_); rintro e w2 ⟨v2, he, hown2, hb2⟩; obtain rfl := he; obtain ⟨b0, b1⟩ := ent_cells (HK1.out.below hb2 HK1.out.lt); have HB2 := Lib.hid (HB1.out.trans (hb2.mono HB1.out.size)); clear hown2; clear hb2; simp only))
      go_ret2
      exact hands_nil HZ.out HB2.out
    · by_cases hi : 0 ≤ i ∧ i < 64
      · have hle := layE_yes (H := hsh) hN hi
        rw [hle] at HLA
        by_cases hf : idxOf S s.data.toList < S.length
        · have HZ := Lib.hid (hR.trans (addE_there hP hN hi hf))
          obtain ⟨x, _, _, hfx⟩ := idx_fnd_some hd.once hf
          rw [hfx] at HFD
          clear hn hr hP hc hm hb0 hR hd hde hls hN hle hi hf hfx
          go_enter Try.func24, Try.ntmps24
          go_wp2_with (first
            | (go_at_call 39; (with_reducible refine (HAL.out _ HR0.out).mono ?_); rintro e w1 ⟨v1, he, hown, hb⟩; obtain rfl := he; obtain ⟨hk1, hb1, hs1⟩ := kept_ent hb; obtain ⟨a0, a1⟩ := ent_cells hk1; have HK1 := Lib.hid hk1; have HB1 := Lib.hid hb1; clear hown hb hb1 hk1; simp only [Option.isSome])
            | (go_at_call 12; (with_reducible refine (HLA.out _).mono ?_); rintro e w2 ⟨v2, he, hown2, hb2⟩; obtain rfl := he; obtain ⟨b0, b1⟩ := ent_cells (HK1.out.below hb2 HK1.out.lt); have HB2 := Lib.hid (HB1.out.trans (hb2.mono HB1.out.size)); clear hown2; clear hb2; simp only)
            | (go_at_call 21; (with_reducible refine (HFD.out _ ((Hr.out.below HB2.out).more HB2.out.size)).mono ?_); rintro e w3 ⟨he, hb3⟩; obtain rfl := he; have HB3 := Lib.hid (HB2.out.trans (hb3.mono HB2.out.size)); clear hb3; simp only [Option.isSome]))
          go_ret2
          exact hands_nil HZ.out HB3.out
        · rw [idx_fnd_none hf] at HFD
          have HFI := Lib.hid (fun (h : freeIdx S = 240) => hR.trans (addE_full hP hN hi hf h))
          have HYE := Lib.hid (fun (h : freeIdx S ≠ 240) => hR.trans (addE_yes hP hN hi hf h))
          have HOK := Lib.hid (show SOks (put S ⟨s.data.toList, i.toNat⟩) from soks_put hd.ok ⟨hN, by have := hi.1; have := hi.2; show i.toNat < 64; omega⟩)
          have HLS := Lib.hid hls
          have hiN : ((i.toNat : Nat) : Int) = i := by have := hi.1; omega
          have hrowI : slotC (some ⟨s.data.toList, i.toNat⟩) = [.string s, .int .i64 i, .bool true] := by
            show [Value.string ⟨s.data.toList.toArray⟩, .int .i64 ((i.toNat : Nat) : Int), .bool true] = _
            rw [hiN]
          have HROW := Lib.hid hrowI
          have hN240 : S.length ≤ 240 := hls.2
          have hnI : (n : Int) = (S.length : Int) * 16 := by have := hls.1; omega
          clear hn hr hP hc hm hb0 hR hd hde hls hN hle hi hf hiN hrowI
          go_enter Try.func24, Try.ntmps24
          go_wp2_with (first
            | (go_at_call 39; (with_reducible refine (HAL.out _ HR0.out).mono ?_); rintro e w1 ⟨v1, he, hown, hb⟩; obtain rfl := he; obtain ⟨hk1, hb1, hs1⟩ := kept_ent hb; obtain ⟨a0, a1⟩ := ent_cells hk1; have HK1 := Lib.hid hk1; have HB1 := Lib.hid hb1; have HO1 := Lib.hid (own_mono hown HB0.out); clear hown hb hb1 hk1; simp only [Option.isSome])
            | (go_at_call 12; (with_reducible refine (HLA.out _).mono ?_); rintro e w2 ⟨v2, he, hown2, hb2⟩; obtain rfl := he; obtain ⟨b0, b1⟩ := ent_cells (HK1.out.below hb2 HK1.out.lt); have HB2 := Lib.hid (HB1.out.trans (hb2.mono HB1.out.size)); have HO2 := Lib.hid (own_below HO1.out hb2); have HK2 := Lib.hid (HK1.out.below hb2 HK1.out.lt); clear hown2; clear hb2; simp only)
            | (go_at_call 21; (with_reducible refine (HFD.out _ ((Hr.out.below HB2.out).more HB2.out.size)).mono ?_); rintro e w3 ⟨he, hb3⟩; obtain rfl := he; have HB3 := Lib.hid (HB2.out.trans (hb3.mono HB2.out.size)); have HO3 := Lib.hid (own_below HO2.out hb3); have HK3 := Lib.hid (HK2.out.below hb3 HK2.out.lt); clear hb3; simp only [Option.isSome]))
          simp only [Option.getD] at HO1 HO2 HO3 ⊢
          have hstart : w3.ownsRow w.heap.size 69 3 v1 S.length (rowsG slotC S) := HO3.out
          have HOS := Lib.hid hstart
          clear hstart HO1 HO2 HO3
          obtain ⟨A1, c1, hv1, hc1, hm1, -⟩ := own_rdk (by omega) HOS.out
          subst hv1
          obtain ⟨e0, e1⟩ := ent_cells HK3.out
          by_cases hS0 : 0 < S.length
          · obtain ⟨g, c2, hv2, -⟩ := own_pos HOS.out hS0
            injection hv2 with hv2 _ hv3
            subst hv2 hv3
            go_loopw [12] (fun k wr => ∃ i : Nat, k = .int .i64 (i : Int) ∧ i ≤ S.length ∧ i ≤ freeIdx S ∧ wr = w3) (fun k _ => S.length - (intOf k).toNat)
            case atStart => exact ⟨0, rfl, Nat.zero_le _, Nat.zero_le _, rfl⟩
            case round =>
              obtain ⟨j, rfl, hj, hfr, rfl⟩ := hrel
              have HF := Lib.hid hfr
              clear hfr
              by_cases hlt : j < S.length
              · have hlti : (j : Int) < (S.length : Int) := by omega
                have hj0 : (0 : Int) ≤ (j : Int) := by omega
                have hjw : IntKind.i64.wrap ((j : Int) + 1) = ((j + 1 : Nat) : Int) := by rw [IntKind.wrap_i64]; omega
                obtain ⟨t, ht⟩ : ∃ t, S[j]? = some t := ⟨_, List.getElem?_eq_getElem hlt⟩
                obtain ⟨⟨d0, d1, d2⟩, f0, f1, f2⟩ := slot_own HOS.out ht
                cases t with
                | some x =>
                  have HF2 := Lib.hid (free_step HF.out ht)
                  simp only [Option.isSome] at d2
                  clear ht d0 d1
                  go_wp2
                  go_roundw
                  case rel => exact ⟨j + 1, by first | rfl | (congr 1), hlt, HF2.out, trivial⟩
                  case measure => simp [intOf]; omega
                | none =>
                  have hfe := free_hit HF.out ht
                  simp only [Option.isSome] at d2
                  have HZ := Lib.hid (HYE.out (by omega))
                  have HPS := Lib.hid (put_set (S := S) ⟨s.data.toList, i.toNat⟩ (by rw [hfe]; exact hlt))
                  rw [hfe] at HPS
                  clear ht hfe
                  go_wp2_with (first
                    | (go_at_call 42; obtain ⟨hst, hsb⟩ := slot_put HOS.out HB3.out hlt (some ⟨s.data.toList, i.toNat⟩) _ _ _ HROW.out; (with_reducible refine (rbytes_any (S.set j (some ⟨s.data.toList, i.toNat⟩)) (by rw [← HPS.out]; exact HOK.out) _ _ _ _ (List.length_set ..) (own_rdkp (by omega) hst) (by rw [List.length_set]; omega)).mono ?_); rintro e w8 ⟨v8, he, hown8, hb8⟩; obtain rfl := he))
                  go_ret2
                  exact hands_bytes (by rw [HZ.out, HPS.out]) hown8 hsb.size (hsb.trans (hb8.mono hsb.size))
              · obtain rfl : j = S.length := by omega
                have HFE := Lib.hid (show S.length = freeIdx S by have := free_le S; have := HF.out; omega)
                by_cases h240 : S.length = 240
                · have HZ := Lib.hid (HFI.out (by rw [← HFE.out]; exact h240))
                  have hbig : 3840 < IntKind.i64.wrap ((n : Int) + 16) := by rw [IntKind.wrap_i64]; omega
                  go_wp2
                  go_ret2
                  exact hands_nil HZ.out HB3.out
                · have HZ := Lib.hid (HYE.out (by rw [← HFE.out]; exact h240))
                  have hbig : ¬ 3840 < IntKind.i64.wrap ((n : Int) + 16) := by rw [IntKind.wrap_i64]; omega
                  have HPE := Lib.hid (put_end (S := S) ⟨s.data.toList, i.toNat⟩ (by have := HFE.out; omega))
                  have HBA := Lib.hid (HB3.out.trans ((alloc_below wr (.cells #[.string s, .int .i64 i, .bool true] 69)).mono HB3.out.size))
                  go_wp2_with (first
                    | (at_builtin; refine wpList_slot _ rfl (.tmp 64) (.tmp 67) rfl w.heap.size _ S rfl (HOS.out.alloc _) (wr.heap.size + 1) (some ⟨wr.heap.size, 0, none⟩) 1 (some ⟨s.data.toList, i.toNat⟩) rfl (by rw [HROW.out]; exact rd_new3 _ _ _ 69 wr.heap.size rfl rfl) (by omega) HBA.out.size ?_; intro v7 w7 hown7 hg7; have HB7 := Lib.hid (HBA.out.grown hg7 HBA.out.size (fun k hk => (HOS.out.lt k hk).1)); have HO7 := Lib.hid hown7; clear hown7 hg7; obtain ⟨A7, c7, hv7, -, -, hr7⟩ := own_rdk (by omega) HO7.out; subst hv7; have HR7 := Lib.hid hr7; clear hr7)
                    | (go_at_call 42; (with_reducible refine (rbytes_any (S ++ [some ⟨s.data.toList, i.toNat⟩]) (by rw [← HPE.out]; exact HOK.out) _ (S.length + 1) _ _ (by rw [List.length_append, List.length_singleton]) HR7.out (by rw [List.length_append, List.length_singleton]; omega)).mono ?_); rintro e w8 ⟨v8, he, hown8, hb8⟩; obtain rfl := he))
                  go_ret2
                  exact hands_bytes (by rw [HZ.out, HPE.out]) hown8 HB7.out.size (HB7.out.trans (hb8.mono HB7.out.size))
          · obtain rfl : S = [] := List.eq_nil_of_length_eq_zero (by omega)
            obtain rfl : n = 0 := by have h0 : (n : Int) = 0 := (by simpa using hnI); omega
            clear hnI
            have HZ := Lib.hid (HYE.out (show (0 : Nat) ≠ 240 by decide))
            have HPE := Lib.hid (show put [] ⟨s.data.toList, i.toNat⟩ = [some ⟨s.data.toList, i.toNat⟩] from rfl)
            go_loopw [12] (fun k wr => k = .int .i64 0 ∧ wr = w3) (fun _ _ => 0)
            case atStart => exact ⟨rfl, rfl⟩
            case round =>
              obtain ⟨rfl, rfl⟩ := hrel
              have HBA := Lib.hid (HB3.out.trans ((alloc_below wr (.cells #[.string s, .int .i64 i, .bool true] 69)).mono HB3.out.size))
              go_wp2_with (first
                | (at_builtin; refine wpList_slot _ rfl (.tmp 64) (.tmp 67) rfl w.heap.size _ [] rfl (HOS.out.alloc _) (wr.heap.size + 1) (some ⟨wr.heap.size, 0, none⟩) 1 (some ⟨s.data.toList, i.toNat⟩) rfl (by rw [HROW.out]; exact rd_new3 _ _ _ 69 wr.heap.size rfl rfl) (by decide) HBA.out.size ?_; intro v7 w7 hown7 hg7; have HB7 := Lib.hid (HBA.out.grown hg7 HBA.out.size (fun k hk => (HOS.out.lt k hk).1)); have HO7 := Lib.hid hown7; clear hown7 hg7; obtain ⟨A7, c7, hv7, -, -, hr7⟩ := own_rdk (by omega) HO7.out; subst hv7; have HR7 := Lib.hid hr7; clear hr7)
                | (go_at_call 42; (with_reducible refine (rbytes_any [some ⟨s.data.toList, i.toNat⟩] (by rw [← HPE.out]; exact HOK.out) _ 1 _ _ (by simp) HR7.out (by simp)).mono ?_); rintro e w8 ⟨v8, he, hown8, hb8⟩; obtain rfl := he))
              go_ret2
              exact hands_bytes (by rw [HZ.out, HPE.out]) hown8 HB7.out.size (HB7.out.trans (hb8.mono HB7.out.size))
      · have hle := layE_ino (H := hsh) hN hi
        rw [hle] at HLA
        have HZ := Lib.hid (hR.trans (addE_lay hP hle (by decide)))
        clear hn hr hP hc hm hb0 hR hd hde hls hN hle hi
        go_enter Try.func24, Try.ntmps24
        go_wp2_with (first
          | (go_at_call 39; (with_reducible refine (HAL.out _ HR0.out).mono ?_); rintro e w1 ⟨v1, he, hown, hb⟩; obtain rfl := he; obtain ⟨hk1, hb1, hs1⟩ := kept_ent hb; obtain ⟨a0, a1⟩ := ent_cells hk1; have HK1 := Lib.hid hk1; have HB1 := Lib.hid hb1; clear hown hb hb1 hk1; simp only [Option.isSome])
          | (go_at_call 12; (with_reducible refine (HLA.out _).mono ?_); rintro e w2 ⟨v2, he, hown2, hb2⟩; obtain rfl := he; obtain ⟨b0, b1⟩ := ent_cells (HK1.out.below hb2 HK1.out.lt); have HB2 := Lib.hid (HB1.out.trans (hb2.mono HB1.out.size)); clear hown2; clear hb2; simp only))
        go_ret2
        exact hands_nil HZ.out HB2.out
end Go.Proofs.Ytlopndnjkphdnaa.Entry
