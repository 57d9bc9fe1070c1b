/-
  A directory with an entry more, and with one less: package entry's Add and Remove.
-/
import Derived.Test.YtlopndnjkphdnaaEntryX11
namespace Go.Proofs.Ytlopndnjkphdnaa.Entry
open Go.RowKit

theorem splice_take {α : Type} (cur : List α) (n o : Nat) (cs : List α) (h : o + cs.length ≤ n) (hn : n ≤ cur.length) : (splice cur o cs).take n = splice (cur.take n) o cs := by
  unfold splice
  have e1 : (cur.take n).take o = cur.take o := by rw [List.take_take]; congr 1; omega
  have e2 : (cur.take n).drop (o + cs.length) = (cur.drop (o + cs.length)).take (n - (o + cs.length)) := by rw [List.drop_take]
  rw [e1, e2, ← List.append_assoc, ← List.append_assoc, List.take_append]
  have hl : (cur.take o ++ cs).length = o + cs.length := by rw [List.length_append, List.length_take]; omega
  rw [hl, List.take_of_length_le (by omega)]
/-- An own row of bytes, part of which is laid over. -/
theorem own_splice {w : World} {base g n c o : Nat} {l cs : List UInt8} (h : w.ownsRow base 5 1 (.slice (some ⟨g, 0, none⟩) n c) n (bytesV l)) (hfit : o + cs.length ≤ n) :
    ∃ cur, w.heap[g]? = some (.cells cur 5 (0, 0)) ∧ n ≤ cur.size ∧ (w.setRow g (splice cur.toList o (bytesV cs)).toArray).ownsRow base 5 1 (.slice (some ⟨g, 0, none⟩) n c) n (bytesV (splice l o cs)) := by
  obtain ⟨h0, h1⟩ := h
  rcases h1 with ⟨h1, _⟩ | ⟨g', cap, cur, hv, hb, hg, hnc, hcm, hsz, htk⟩
  · cases h1
  · injection hv with hv1 _ hv3
    injection hv1 with hv1
    injection hv1 with hv1 _ _
    subst hv1 hv3
    have hl : (bytesV cs).length = cs.length := length_bytesV cs
    refine ⟨cur, hg, by omega, ?_, .inr ⟨g, c, (splice cur.toList o (bytesV cs)).toArray, rfl, hb, setRow_heap w g _ _ _ _ hg, hnc, hcm, ?_, ?_⟩⟩
    · have e : (bytesV (splice l o cs)).length = (bytesV l).length := by
        rw [length_bytesV, length_bytesV]
        unfold splice
        have : l.length = n := by rw [length_bytesV] at h0; omega
        simp
        omega
      rw [e]
      exact h0
    · unfold splice
      simp
      omega
    · have hs : bytesV (splice l o cs) = splice (bytesV l) o (bytesV cs) := by
        unfold splice
        rw [bytesV_append, bytesV_append, bytesV_take, bytesV_drop, hl]
      rw [hs, ← htk, Nat.mul_one]
      exact splice_take cur.toList n o (bytesV cs) (by omega) (by simp; omega)
/-- 'copy(dst, src)', both of bytes, dst in a row of the call's own. -/
theorem run_copy24 {w : World} {base g n c off dCap : Nat} {l : List UInt8} (hown : w.ownsRow base 5 1 (.slice (some ⟨g, 0, none⟩) n c) n (bytesV l))
    {m sCap B : Nat} {A : Option Addr} {cs : List UInt8} (hm : cs.length = m) (hm0 : 0 < m) (hr : Rd w B A (bytesV cs)) (hfit : off + m ≤ n) :
    ∃ w', (∀ ty, (Builtin.copy_ #[24, 24] ty #[.slice (some ⟨g, off, none⟩) m dCap, .slice A m sCap]).run Try.prog w = .ok (goInt m) w') ∧ w'.ownsRow base 5 1 (.slice (some ⟨g, 0, none⟩) n c) n (bytesV (splice l off cs)) ∧ w.grownBy w' (some g) := by
  obtain ⟨cur, hg, hn, hown2⟩ := own_splice (o := off) (cs := cs) hown (by omega)
  obtain ⟨b2, o2, rfl, _⟩ := rd_at hr (bytesV_ne hm hm0)
  have hsrc : ∀ j v, (bytesV cs)[j]? = some v → w.cell? ((⟨b2, o2, none⟩ : Addr).add j) = some v := by
    rcases hr with h' | ⟨b', o', h', _, hc⟩
    · exact absurd h' (bytesV_ne hm hm0)
    · injection h' with h'
      injection h' with h1 h2 _
      subst h1 h2
      intro j v hv
      rw [Addr.add_lit]
      exact hc j v hv
  have hl : (bytesV cs).length = m := by rw [length_bytesV, hm]
  have e : cur.toList.take off ++ bytesV cs ++ cur.toList.drop (off + m) = splice cur.toList off (bytesV cs) := by
    unfold splice
    rw [hl, List.append_assoc]
  refine ⟨_, fun ty => ?_, hown2, row_grown _ _ _⟩
  have hrun := run_copy_row (P := Try.prog) w 24 24 ty 5 g off m dCap ⟨b2, o2, none⟩ m sCap cur 5 (bytesV cs) Try.underlying24 size5 hg (by rw [hl]; exact (Nat.min_self m).symm) hsrc (by omega) (bytesV_one cs)
  rw [hl, e] at hrun
  exact hrun
theorem zeros_cells (n : Nat) : (Builtin.zeroCells (Value.int .u8 0).cells n).toList = bytesV (List.replicate n 0) := by
  have : (Value.int .u8 0).cells = #[.int .u8 0] := rfl
  rw [this]
  simp [Builtin.zeroCells, bytesV, byteV]
  apply List.ext_getElem
  · simp
  · intro i h1 h2
    simp [Nat.mod_one]
/-- 'clear(x)', x of bytes in a row of the call's own. -/
theorem run_clear24 {w : World} {base g n c off dCap : Nat} {l : List UInt8} (hown : w.ownsRow base 5 1 (.slice (some ⟨g, 0, none⟩) n c) n (bytesV l)) {m : Nat} (hm0 : 0 < m) (hfit : off + m ≤ n) :
    ∃ w', (∀ ty, (Builtin.clear_ #[24] ty #[.slice (some ⟨g, off, none⟩) m dCap]).run Try.prog w = .ok (.tuple #[]) w') ∧ w'.ownsRow base 5 1 (.slice (some ⟨g, 0, none⟩) n c) n (bytesV (splice l off (List.replicate m 0))) ∧ w.grownBy w' (some g) := by
  obtain ⟨cur, hg, hn, hown2⟩ := own_splice (o := off) (cs := List.replicate m 0) hown (by simpa using hfit)
  have hl : (bytesV (List.replicate m 0)).length = m := by rw [length_bytesV, List.length_replicate]
  have hst := run_storeCells_at Try.prog g off 5 (bytesV (List.replicate m 0)) 0 cur w hg (by rw [hl]; omega) (bytesV_one _)
  simp only [Nat.add_zero] at hst
  refine ⟨_, fun ty => ?_, hown2, row_grown _ _ _⟩
  obtain ⟨k, rfl⟩ : ∃ k, m = k + 1 := ⟨m - 1, by omega⟩
  have e : cur.toList.take off ++ bytesV (List.replicate (k + 1) 0) ++ cur.toList.drop (off + (bytesV (List.replicate (k + 1) 0)).length) = splice cur.toList off (bytesV (List.replicate (k + 1) 0)) := by
    unfold splice
    rw [List.append_assoc]
  rw [e] at hst
  simp [Builtin.clear_, run_underlying Try.underlying24, zeros_cells, hst]
theorem own_posM {w : World} {base : Nat} {e : TypeId} {size : Nat} {v : Value} {n : Nat} {xs : List Value} (h : w.ownsRow base e size v n xs) (hn : 0 < n) : ∃ g c, v = .slice (some ⟨g, 0, none⟩) n c ∧ n ≤ c ∧ c ≤ maxLen := by
  rcases h.2 with ⟨_, h0⟩ | ⟨g, cap, _, hv, _, _, hc, hm, _⟩
  · omega
  · exact ⟨g, cap, hv, hc, hm⟩
theorem own_sh {w : World} {base : Nat} {e : TypeId} {size : Nat} {v : Value} {n : Nat} {xs : List Value} (h : w.ownsRow base e size v n xs) : ∃ A c, v = .slice A n c ∧ n ≤ c := by
  rcases h.2 with ⟨hv, h0⟩ | ⟨g, cap, _, hv, _, _, hc, hm, _⟩
  · subst h0
    exact ⟨none, 0, hv, Nat.le_refl _⟩
  · exact ⟨_, cap, hv, hc⟩
theorem slot_zero (b n c at_ : Nat) (w : World) (ha : at_ + 16 ≤ n) (hc : n ≤ c) (hm : c ≤ maxLen) :
    Calls Try.prog 37 #[.slice (some ⟨b, 0, none⟩) n c, .int .i64 (at_ : Int)] w fun e w' => e = .returned (.slice (some ⟨b, at_, none⟩) 16 (c - at_)) ∧ w = w' := by
  have := slot_at b 0 n c at_ w ha hc hm
  rwa [Nat.zero_add] at this
theorem addE_dir {b n : List UInt8} {i : Int} (h : dirP hsh b = none) : addE hsh b n i = ([], 121) := by unfold addE; rw [h]
theorem addE_lay {b n : List UInt8} {i : Int} {S : List Slot} {k : Nat} (h : dirP hsh b = some S) (hl : layE hsh n i = ([], k)) (hk : k ≠ 0) : addE hsh b n i = ([], k) := by
  unfold addE
  rw [h]
  simp only [hl]
  rw [if_pos hk]
theorem addE_there {b n : List UInt8} {i : Int} {S : List Slot} (h : dirP hsh b = some S) (hn : nameB n = true) (hi : 0 ≤ i ∧ i < 64) (hf : idxOf S n < S.length) : addE hsh b n i = ([], 3) := by
  obtain ⟨hd, _⟩ := dirP_iff.1 h
  obtain ⟨x, _, _, hfx⟩ := idx_fnd_some hd.once hf
  unfold addE
  rw [h]
  simp only [layE_yes hn hi, hfx]
  rfl
theorem addE_full {b n : List UInt8} {i : Int} {S : List Slot} (h : dirP hsh b = some S) (hn : nameB n = true) (hi : 0 ≤ i ∧ i < 64) (hf : ¬ idxOf S n < S.length) (h240 : freeIdx S = 240) : addE hsh b n i = ([], 5) := by
  obtain ⟨hd, _⟩ := dirP_iff.1 h
  have hl : S.length = 240 := by have := free_le S; have := hd.len; omega
  have ha : (S.any fun s => s.isNone) = false := by
    rw [List.any_eq_false]
    intro s hs
    cases s with
    | none => have := free_mem.2 hs; omega
    | some x => simp
  unfold addE
  rw [h]
  simp only [layE_yes hn hi, idx_fnd_none hf]
  rw [if_neg (by decide), if_neg (by decide), if_neg]
  rw [ha, hl]
  decide
theorem addE_yes {b n : List UInt8} {i : Int} {S : List Slot} (h : dirP hsh b = some S) (hn : nameB n = true) (hi : 0 ≤ i ∧ i < 64) (hf : ¬ idxOf S n < S.length) (h240 : freeIdx S ≠ 240) : addE hsh b n i = (dirB hsh (put S ⟨n, i.toNat⟩), 0) := by
  obtain ⟨hd, _⟩ := dirP_iff.1 h
  have ha : ((S.any fun s => s.isNone) || decide (S.length < 240)) = true := by
    by_cases hlt : S.length < 240
    · rw [decide_eq_true hlt, Bool.or_true]
    · have : freeIdx S < S.length := by have := free_le S; have := hd.len; omega
      rw [Bool.or_eq_true]
      exact .inl (List.any_eq_true.2 ⟨none, free_mem.1 this, rfl⟩)
  unfold addE
  rw [h]
  simp only [layE_yes hn hi, idx_fnd_none hf]
  rw [if_neg (by decide), if_neg (by decide), if_pos ha]
theorem put_end {S : List Slot} (x : Ent) (h : ¬ freeIdx S < S.length) : put S x = S ++ [some x] := put_full fun hm => h (free_mem.2 hm)

set_option maxHeartbeats 3200000 in
set_option maxRecDepth 100000 in
theorem add_any (l : List UInt8) (A : Option Addr) (n c : Nat) (s : ByteArray) (i : Int) (w : World) (hn : l.length = n) (hr : Rd w w.heap.size A (bytesV l)) (hc : n ≤ c) (hm : c ≤ maxLen) (hs : s.size ≤ 1000000) :
    Calls Try.prog 23 #[.slice A n c, .agg #[.string s, .int .i64 i]] w fun e w' => Hands w (addE hsh l s.data.toList i) e w' := by
  have HAL := Lib.hid (fun (W : World) (hW : Rd W W.heap.size A (bytesV l)) => all_any l A n c W hn hW hc hm)
  have HLA := Lib.hid (fun W => lay_any s i W)
  have Hr := Lib.hid hr
  have hb0 := alloc_below w (.cells #[.string s, .int .i64 i] 23)
  have HR0 := Lib.hid ((hr.below hb0).more hb0.size)
  obtain ⟨R, hR⟩ : ∃ R, R = addE hsh l s.data.toList i := ⟨_, rfl⟩
  rw [← hR]
  cases hP : dirP hsh l with
  | none =>
    rw [allE_none hP] at HAL
    have HZ := Lib.hid (hR.trans (addE_dir hP))
    clear hn hr hP hc hm hb0 hR
    go_enter Try.func23, Try.ntmps23
    go_wp2_with (go_at_call 18; (with_reducible refine (HAL.out _ HR0.out).mono ?_); rintro e w1 ⟨v, he, hown, hb⟩; obtain rfl := he; obtain ⟨hk1, hb1, hs1⟩ := kept_ent hb; obtain ⟨a0, a1⟩ := ent_cells hk1; have HB1 := Lib.hid hb1; clear hown hb hb1; simp only)
    go_ret2
    exact hands_nil HZ.out HB1.out
  | some S =>
    rw [allE_some hP] at HAL
    obtain ⟨hd, hde⟩ := dirP_iff.1 hP
    have hls := length_dirP hP
    rw [hn] at hls
    -- MAIN
    have HSE := Lib.hid (fun (w' : World) (hr' : Rd w' w'.heap.size A (bytesV l)) => search_any S hd.ok A n c s w' hls.1 (by rw [hde]; exact hr') hc hm hs (by omega))
    have HFI := Lib.hid (fun (w' : World) (hr' : Rd w' w'.heap.size A (bytesV l)) => first_any S hd.ok A n c w' hls.1 (by rw [hde]; exact hr') hc hm (by omega))
    have HCL := Lib.hid (fun (w' : World) (hr' : Rd w' w'.heap.size A (bytesV l)) => clone_any l A n c w' hn hr' (by omega))
    cases hN : nameB s.data.toList
    · have hle := layE_name (H := hsh) (i := i) hN
      rw [hle] at HLA
      have HZ := Lib.hid (hR.trans (addE_lay hP hle (by decide)))
      clear hn hr hP hc hm hb0 hR hd hde hls hN hle
      go_enter Try.func23, Try.ntmps23
      go_wp2_with (first
        | (go_at_call 18; (with_reducible refine (HAL.out _ HR0.out).mono ?_); rintro e w1 ⟨v1, he, hown, hb⟩; obtain rfl := he; obtain ⟨hk1, hb1, hs1⟩ := kept_ent hb; obtain ⟨a0, a1⟩ := ent_cells hk1; have HK1 := Lib.hid hk1; have HB1 := Lib.hid hb1; clear hown hb hb1 hk1; simp only)
        | (go_at_call 11; (with_reducible refine (HLA.out _).mono ?_); rintro e w2 ⟨v2, he, hown2, hb2⟩; obtain rfl := he; obtain ⟨b0, b1⟩ := ent_cells (HK1.out.below hb2 HK1.out.lt); have HB2 := Lib.hid (HB1.out.trans (hb2.mono HB1.out.size)); clear hown2; clear hb2; simp only))
      go_ret2
      exact hands_nil HZ.out HB2.out
    · by_cases hi : 0 ≤ i ∧ i < 64
      · have hle := layE_yes (H := hsh) hN hi
        rw [hle] at HLA
        have HLEN := Lib.hid (length_entB (H := hsh) (x := ⟨s.data.toList, i.toNat⟩) ⟨hN, by have := hi.1; have := hi.2; show i.toNat < 64; omega⟩)
        have hdB : dirB hsh (put S ⟨s.data.toList, i.toNat⟩) = dirB hsh (put S ⟨s.data.toList, i.toNat⟩) := rfl
        by_cases hf : idxOf S s.data.toList < S.length
        · have HZ := Lib.hid (hR.trans (addE_there hP hN hi hf))
          obtain ⟨q, hq⟩ : ∃ q, idxOf S s.data.toList * 16 = q := ⟨_, rfl⟩
          rw [hq] at HSE
          have hqn : (q : Int) < (n : Int) := by omega
          generalize entB hsh ⟨s.data.toList, i.toNat⟩ = eb at *
          clear hn hr hP hc hm hb0 hR hd hde hls hN hle hi hq hf hdB
          go_enter Try.func23, Try.ntmps23
          go_wp2_with (first
            | (go_at_call 18; (with_reducible refine (HAL.out _ HR0.out).mono ?_); rintro e w1 ⟨v1, he, hown, hb⟩; obtain rfl := he; obtain ⟨hk1, hb1, hs1⟩ := kept_ent hb; obtain ⟨a0, a1⟩ := ent_cells hk1; have HK1 := Lib.hid hk1; have HB1 := Lib.hid hb1; clear hown hb hb1 hk1; simp only)
            | (go_at_call 11; (with_reducible refine (HLA.out _).mono ?_); rintro e w2 ⟨v2, he, hown2, hb2⟩; obtain rfl := he; obtain ⟨b0, b1⟩ := ent_cells (HK1.out.below hb2 HK1.out.lt); have HB2 := Lib.hid (HB1.out.trans (hb2.mono HB1.out.size)); obtain ⟨-, A2, c2, hv2, -, -, hr2⟩ := own_rd (HLEN.out ▸ hown2); subst hv2; have HR2 := Lib.hid hr2; clear hown2 hr2; clear hb2; simp only)
            | (go_at_call 38; (with_reducible refine (HSE.out _ ((Hr.out.below HB2.out).more HB2.out.size)).mono ?_); rintro e w3 ⟨he, hb3⟩; obtain rfl := he; have HB3 := Lib.hid (HB2.out.trans (hb3.mono HB2.out.size)); have HR3 := Lib.hid ((HR2.out.below hb3).more hb3.size); clear hb3))
          go_ret2
          exact hands_nil HZ.out HB3.out
        · have hie : idxOf S s.data.toList * 16 = n := by have := idx_le S s.data.toList; omega
          rw [hie] at HSE
          by_cases h240 : freeIdx S = 240
          · have HZ := Lib.hid (hR.trans (addE_full hP hN hi hf h240))
            have hfi : freeIdx S * 16 = 3840 := by omega
            rw [hfi] at HFI
            generalize entB hsh ⟨s.data.toList, i.toNat⟩ = eb at *
            clear hn hr hP hc hm hb0 hR hd hde hls hN hle hi hf hie h240 hfi hdB
            go_enter Try.func23, Try.ntmps23
            go_wp2_with (first
              | (go_at_call 18; (with_reducible refine (HAL.out _ HR0.out).mono ?_); rintro e w1 ⟨v1, he, hown, hb⟩; obtain rfl := he; obtain ⟨hk1, hb1, hs1⟩ := kept_ent hb; obtain ⟨a0, a1⟩ := ent_cells hk1; have HK1 := Lib.hid hk1; have HB1 := Lib.hid hb1; clear hown hb hb1 hk1; simp only)
              | (go_at_call 11; (with_reducible refine (HLA.out _).mono ?_); rintro e w2 ⟨v2, he, hown2, hb2⟩; obtain rfl := he; obtain ⟨b0, b1⟩ := ent_cells (HK1.out.below hb2 HK1.out.lt); have HB2 := Lib.hid (HB1.out.trans (hb2.mono HB1.out.size)); obtain ⟨-, A2, c2, hv2, -, -, hr2⟩ := own_rd (HLEN.out ▸ hown2); subst hv2; have HR2 := Lib.hid hr2; clear hown2 hr2; clear hb2; simp only)
              | (go_at_call 38; (with_reducible refine (HSE.out _ ((Hr.out.below HB2.out).more HB2.out.size)).mono ?_); rintro e w3 ⟨he, hb3⟩; obtain rfl := he; have HB3 := Lib.hid (HB2.out.trans (hb3.mono HB2.out.size)); have HR3 := Lib.hid ((HR2.out.below hb3).more hb3.size); clear hb3)
              | (go_at_call 40; (with_reducible refine (HFI.out _ ((Hr.out.below HB3.out).more HB3.out.size)).mono ?_); rintro e w4 ⟨he, hb4⟩; obtain rfl := he; have HB4 := Lib.hid (HB3.out.trans (hb4.mono HB3.out.size)); have HR4 := Lib.hid ((HR3.out.below hb4).more hb4.size); clear hb4))
            go_ret2
            exact hands_nil HZ.out HB4.out
          · have hz := hR.trans (addE_yes hP hN hi hf h240)
            have hfl := free_le S
            obtain ⟨q, hq⟩ : ∃ q, freeIdx S * 16 = q := ⟨_, rfl⟩
            rw [hq] at HFI
            have hne : ((q : Int) == 3840) = false := by simp; omega
            by_cases hfr : freeIdx S < S.length
            · have hbs := dirB_set hd.ok (j := freeIdx S) (t := some ⟨s.data.toList, i.toNat⟩) (.some ⟨hN, by have := hi.1; have := hi.2; show i.toNat < 64; omega⟩) hfr
              rw [← put_set _ hfr, hde, hq] at hbs
              rw [hbs] at hz
              have HZ := Lib.hid (hz.trans (by rfl : _ = (splice l q (entB hsh ⟨s.data.toList, i.toNat⟩), 0)))
              have hqn : q + 16 ≤ n := by omega
              have hne2 : ((q : Int) == (n : Int)) = false := by simp; omega
              have HLN := Lib.hid (show (splice l q (entB hsh ⟨s.data.toList, i.toNat⟩)).length = n by unfold splice; rw [List.length_append, List.length_append, List.length_take, List.length_drop, HLEN.out]; omega)
              generalize entB hsh ⟨s.data.toList, i.toNat⟩ = eb at *
              have hn0 : 0 < n := by omega
              clear hn hr hP hc hm hb0 hR hd hde hls hN hle hi hf hie h240 hfl hfr hbs hz hdB hq
              go_enter Try.func23, Try.ntmps23
              go_wp2_with (first
                | (go_at_call 18; (with_reducible refine (HAL.out _ HR0.out).mono ?_); rintro e w1 ⟨v1, he, hown, hb⟩; obtain rfl := he; obtain ⟨hk1, hb1, hs1⟩ := kept_ent hb; obtain ⟨a0, a1⟩ := ent_cells hk1; have HK1 := Lib.hid hk1; have HB1 := Lib.hid hb1; clear hown hb hb1 hk1; simp only)
                | (go_at_call 11; (with_reducible refine (HLA.out _).mono ?_); rintro e w2 ⟨v2, he, hown2, hb2⟩; obtain rfl := he; obtain ⟨b0, b1⟩ := ent_cells (HK1.out.below hb2 HK1.out.lt); have HB2 := Lib.hid (HB1.out.trans (hb2.mono HB1.out.size)); obtain ⟨-, A2, c2, hv2, -, -, hr2⟩ := own_rd (HLEN.out ▸ hown2); subst hv2; have HR2 := Lib.hid hr2; clear hown2 hr2; clear hb2; simp only)
                | (go_at_call 38; (with_reducible refine (HSE.out _ ((Hr.out.below HB2.out).more HB2.out.size)).mono ?_); rintro e w3 ⟨he, hb3⟩; obtain rfl := he; have HB3 := Lib.hid (HB2.out.trans (hb3.mono HB2.out.size)); have HR3 := Lib.hid ((HR2.out.below hb3).more hb3.size); clear hb3)
                | (go_at_call 40; (with_reducible refine (HFI.out _ ((Hr.out.below HB3.out).more HB3.out.size)).mono ?_); rintro e w4 ⟨he, hb4⟩; obtain rfl := he; have HB4 := Lib.hid (HB3.out.trans (hb4.mono HB3.out.size)); have HR4 := Lib.hid ((HR3.out.below hb4).more hb4.size); clear hb4)
                | (go_at_call 41; (with_reducible refine (HCL.out _ ((Hr.out.below HB4.out).more HB4.out.size)).mono ?_); rintro e w5 ⟨v5, he, hown5, hb5⟩; obtain rfl := he; have HB5 := Lib.hid (HB4.out.trans (hb5.mono HB4.out.size)); have HR5 := Lib.hid ((HR4.out.below hb5).more hb5.size); have HO5 := Lib.hid (own_mono hown5 HB4.out.size); clear hb5 hown5; obtain ⟨g5, c5, hv5, hc5, hm5⟩ := own_posM HO5.out hn0; subst hv5)
                | (go_at_call 37; (with_reducible refine (slot_zero g5 n c5 q _ hqn hc5 hm5).mono ?_); rintro e w6 ⟨he, hw6⟩; obtain rfl := he; obtain rfl := hw6; obtain ⟨w7, hrun7, hown7, hg7⟩ := run_copy24 (off := q) (dCap := c5 - q) (m := 16) (sCap := c2) HO5.out HLEN.out (by decide) HR5.out hqn; have HB7 := Lib.hid (HB5.out.grown hg7 HB5.out.size (fun k hk => (HO5.out.lt k hk).1)); have HO7 := Lib.hid hown7; clear hown7 hg7))
              go_ret2
              exact ⟨_, by rw [HZ.out]; rfl, by rw [HZ.out]; exact HLN.out ▸ HO7.out, HB7.out⟩
            · have hfe : q = n := by omega
              subst hfe
              rw [put_end _ hfr, dirB_append, hde] at hz
              have HZ := Lib.hid (hz.trans (show _ = (l ++ entB hsh ⟨s.data.toList, i.toNat⟩, 0) by simp [dirB, slotB]))
              have HLN := Lib.hid (show (l ++ entB hsh ⟨s.data.toList, i.toNat⟩).length = q + 16 by rw [List.length_append, HLEN.out, hn])
              have hqs : q ≤ 16000 := by omega
              generalize entB hsh ⟨s.data.toList, i.toNat⟩ = eb at *
              clear hn hr hP hc hm hb0 hR hd hde hls hN hle hi hf hie h240 hfl hfr hz hdB hq
              go_enter Try.func23, Try.ntmps23
              go_wp2_with (first
                | (go_at_call 18; (with_reducible refine (HAL.out _ HR0.out).mono ?_); rintro e w1 ⟨v1, he, hown, hb⟩; obtain rfl := he; obtain ⟨hk1, hb1, hs1⟩ := kept_ent hb; obtain ⟨a0, a1⟩ := ent_cells hk1; have HK1 := Lib.hid hk1; have HB1 := Lib.hid hb1; clear hown hb hb1 hk1; simp only)
                | (go_at_call 11; (with_reducible refine (HLA.out _).mono ?_); rintro e w2 ⟨v2, he, hown2, hb2⟩; obtain rfl := he; obtain ⟨b0, b1⟩ := ent_cells (HK1.out.below hb2 HK1.out.lt); have HB2 := Lib.hid (HB1.out.trans (hb2.mono HB1.out.size)); obtain ⟨-, A2, c2, hv2, -, -, hr2⟩ := own_rd (HLEN.out ▸ hown2); subst hv2; have HR2 := Lib.hid hr2; clear hown2 hr2; clear hb2; simp only)
                | (go_at_call 38; (with_reducible refine (HSE.out _ ((Hr.out.below HB2.out).more HB2.out.size)).mono ?_); rintro e w3 ⟨he, hb3⟩; obtain rfl := he; have HB3 := Lib.hid (HB2.out.trans (hb3.mono HB2.out.size)); have HR3 := Lib.hid ((HR2.out.below hb3).more hb3.size); clear hb3)
                | (go_at_call 40; (with_reducible refine (HFI.out _ ((Hr.out.below HB3.out).more HB3.out.size)).mono ?_); rintro e w4 ⟨he, hb4⟩; obtain rfl := he; have HB4 := Lib.hid (HB3.out.trans (hb4.mono HB3.out.size)); have HR4 := Lib.hid ((HR3.out.below hb4).more hb4.size); clear hb4)
                | (go_at_call 41; (with_reducible refine (HCL.out _ ((Hr.out.below HB4.out).more HB4.out.size)).mono ?_); rintro e w5 ⟨v5, he, hown5, hb5⟩; obtain rfl := he; have HB5 := Lib.hid (HB4.out.trans (hb5.mono HB4.out.size)); have HR5 := Lib.hid ((HR4.out.below hb5).more hb5.size); have HO5 := Lib.hid (own_mono hown5 HB4.out.size); clear hb5 hown5; obtain ⟨A5, c5, hv5, hn5⟩ := own_sh HO5.out; subst hv5)
                | (at_builtin; refine wpList_app5 _ rfl (.tmp 45) (.tmp 46) rfl w.heap.size _ q l rfl HO5.out w5.heap.size A2 16 c2 eb rfl HLEN.out HR5.out (by omega) HB5.out.size ?_; intro v7 w7 hown7 hg7; have HB7 := Lib.hid (HB5.out.grown hg7 HB5.out.size (fun k hk => (HO5.out.lt k hk).1)); have HO7 := Lib.hid hown7; clear hown7 hg7))
              go_ret2
              exact ⟨_, by rw [HZ.out]; rfl, by rw [HZ.out]; exact HLN.out ▸ HO7.out, HB7.out⟩
      · have hle := layE_ino (H := hsh) hN hi
        rw [hle] at HLA
        have HZ := Lib.hid (hR.trans (addE_lay hP hle (by decide)))
        clear hn hr hP hc hm hb0 hR hd hde hls hN hle hi
        go_enter Try.func23, Try.ntmps23
        go_wp2_with (first
          | (go_at_call 18; (with_reducible refine (HAL.out _ HR0.out).mono ?_); rintro e w1 ⟨v1, he, hown, hb⟩; obtain rfl := he; obtain ⟨hk1, hb1, hs1⟩ := kept_ent hb; obtain ⟨a0, a1⟩ := ent_cells hk1; have HK1 := Lib.hid hk1; have HB1 := Lib.hid hb1; clear hown hb hb1 hk1; simp only)
          | (go_at_call 11; (with_reducible refine (HLA.out _).mono ?_); rintro e w2 ⟨v2, he, hown2, hb2⟩; obtain rfl := he; obtain ⟨b0, b1⟩ := ent_cells (HK1.out.below hb2 HK1.out.lt); have HB2 := Lib.hid (HB1.out.trans (hb2.mono HB1.out.size)); clear hown2; clear hb2; simp only))
        go_ret2
        exact hands_nil HZ.out HB2.out

theorem remE_dir {b n : List UInt8} (h : dirP hsh b = none) : remE hsh b n = ([], 121) := by unfold remE; rw [h]
theorem remE_none {b n : List UInt8} {S : List Slot} (h : dirP hsh b = some S) (hf : ¬ idxOf S n < S.length) : remE hsh b n = ([], 2) := by
  unfold remE
  rw [h]
  simp only [idx_fnd_none hf]
  rw [if_neg (by decide)]
theorem remE_yes {b n : List UInt8} {S : List Slot} (h : dirP hsh b = some S) (hf : idxOf S n < S.length) : remE hsh b n = (dirB hsh (cutEnd (S.set (idxOf S n) none)), 0) := by
  obtain ⟨hd, _⟩ := dirP_iff.1 h
  obtain ⟨x, _, _, hfx⟩ := idx_fnd_some hd.once hf
  unfold remE
  rw [h]
  simp only [hfx]
  rw [if_pos (show (some x.i).isSome = true from rfl)]
  unfold del
  rw [clr_set hd.once hf]
theorem own_prefix {w : World} {base g n c m : Nat} {l : List UInt8} (h : w.ownsRow base 5 1 (.slice (some ⟨g, 0, none⟩) n c) n (bytesV l)) (hm : m ≤ n) : w.ownsRow base 5 1 (.slice (some ⟨g, 0, none⟩) m c) m (bytesV (l.take m)) := by
  obtain ⟨h0, h1⟩ := h
  rcases h1 with ⟨h1, _⟩ | ⟨g', cap, cur, hv, hb, hg, hnc, hcm, hsz, htk⟩
  · cases h1
  · injection hv with hv1 _ hv3
    injection hv1 with hv1
    injection hv1 with hv1 _ _
    subst hv1 hv3
    rw [length_bytesV] at h0
    refine ⟨by rw [length_bytesV, List.length_take]; omega, .inr ⟨g, c, cur, rfl, hb, hg, by omega, hcm, hsz, ?_⟩⟩
    rw [bytesV_take, ← htk, List.take_take]
    congr 1
    omega
theorem cut_bytes (S : List Slot) (hS : SOks S) : dirB hsh (cutEnd S) = (dirB hsh S).take ((cutEnd S).length * 16) ∧ (cutEnd S).length * 16 ≤ S.length * 16 := by
  obtain ⟨k, hk⟩ := cutEnd_prefix S
  have hc : SOks (cutEnd S) := fun s hs => hS s (by rw [hk]; exact List.mem_append_left _ hs)
  have hl := length_dirB (H := hsh) hc
  refine ⟨?_, Nat.mul_le_mul_right _ (length_cutEnd S)⟩
  have e : dirB hsh S = dirB hsh (cutEnd S) ++ dirB hsh (List.replicate k none) := by rw [← dirB_append, ← hk]
  rw [e, ← hl, List.take_left]

set_option maxHeartbeats 3200000 in
set_option maxRecDepth 100000 in
theorem remove_any (l : List UInt8) (A : Option Addr) (n c : Nat) (s : ByteArray) (w : World) (hn : l.length = n) (hr : Rd w w.heap.size A (bytesV l)) (hc : n ≤ c) (hm : c ≤ maxLen) (hs : s.size ≤ 1000000) :
    Calls Try.prog 25 #[.slice A n c, .string s] w fun e w' => Hands w (remE hsh l s.data.toList) e w' := by
  have HAL := Lib.hid (all_any l A n c w hn hr hc hm)
  have Hr := Lib.hid hr
  obtain ⟨R, hR⟩ : ∃ R, R = remE hsh l s.data.toList := ⟨_, rfl⟩
  rw [← hR]
  cases hP : dirP hsh l with
  | none =>
    rw [allE_none hP] at HAL
    have HZ := Lib.hid (hR.trans (remE_dir hP))
    clear hn hr hP hc hm hR
    go_enter Try.func25, Try.ntmps25
    go_wp2_with (go_at_call 18; (with_reducible refine HAL.out.mono ?_); rintro e w1 ⟨v, he, hown, hb⟩; obtain rfl := he; have HB1 := Lib.hid hb; clear hown hb; simp only)
    go_ret2
    exact hands_nil HZ.out HB1.out
  | some S =>
    rw [allE_some hP] at HAL
    obtain ⟨hd, hde⟩ := dirP_iff.1 hP
    have hls := length_dirP hP
    rw [hn] at hls
    have HSE := Lib.hid (fun (w' : World) (hr' : Rd w' w'.heap.size A (bytesV l)) => search_any S hd.ok A n c s w' hls.1 (by rw [hde]; exact hr') hc hm hs (by omega))
    have HCL := Lib.hid (fun (w' : World) (hr' : Rd w' w'.heap.size A (bytesV l)) => clone_any l A n c w' hn hr' (by omega))
    by_cases hf : idxOf S s.data.toList < S.length
    · have hz := hR.trans (remE_yes hP hf)
      obtain ⟨q, hq⟩ : ∃ q, idxOf S s.data.toList * 16 = q := ⟨_, rfl⟩
      rw [hq] at HSE
      have hbs := dirB_set hd.ok (j := idxOf S s.data.toList) (t := none) .none hf
      rw [hde, hq] at hbs
      have hSok : SOks (S.set (idxOf S s.data.toList) none) := fun t ht => by
        rcases List.mem_or_eq_of_mem_set ht with h | rfl
        · exact hd.ok t h
        · exact .none
      have hSl : (S.set (idxOf S s.data.toList) none).length = S.length := List.length_set ..
      generalize S.set (idxOf S s.data.toList) none = T at *
      have hcut := cut_bytes T hSok
      have hbs2 : dirB hsh T = splice l q (List.replicate 16 0) := hbs
      have hqn : q + 16 ≤ n := by omega
      have hne : ((q : Int) == (n : Int)) = false := by simp; omega
      have hn0 : 0 < n := by omega
      have HTR := Lib.hid (fun (g5 c5 : Nat) (w' : World) (hr' : Rd w' w'.heap.size (some ⟨g5, 0, none⟩) (bytesV (splice l q (List.replicate 16 0)))) (h1 : n ≤ c5) (h2 : c5 ≤ maxLen) => trim_any T hSok (some ⟨g5, 0, none⟩) n c5 w' (by rw [hSl]; exact hls.1) (by rw [hbs2]; exact hr') h1 h2 (by omega))
      obtain ⟨m, hm2⟩ : ∃ m, (cutEnd T).length * 16 = m := ⟨_, rfl⟩
      have hlm : (dirB hsh (cutEnd T)).length = m := by
        have hc2 : SOks (cutEnd T) := by
          obtain ⟨k, hk⟩ := cutEnd_prefix T
          exact fun s hs => hSok s (by rw [hk]; exact List.mem_append_left _ hs)
        rw [length_dirB hc2, hm2]
      rw [hm2] at HTR hcut
      have HMN := Lib.hid (show m ≤ n by have := hcut.2; omega)
      have HLM := Lib.hid hlm
      have HCT := Lib.hid (show dirB hsh (cutEnd T) = (splice l q (List.replicate 16 0)).take m by rw [hcut.1, hbs2])
      have HZ := Lib.hid hz
      generalize dirB hsh (cutEnd T) = out at *
      clear hn hr hP hc hm hR hd hde hls hf hz hbs hbs2 hSok hSl hcut hm2 hlm hq
      go_enter Try.func25, Try.ntmps25
      go_wp2_with (first
        | (go_at_call 18; (with_reducible refine HAL.out.mono ?_); rintro e w1 ⟨v, he, hown, hb⟩; obtain rfl := he; have HB1 := Lib.hid hb; clear hown hb; simp only)
        | (go_at_call 38; (with_reducible refine (HSE.out _ ((Hr.out.below HB1.out).more HB1.out.size)).mono ?_); rintro e w3 ⟨he, hb3⟩; obtain rfl := he; have HB4 := Lib.hid (HB1.out.trans (hb3.mono HB1.out.size)); clear hb3)
        | (go_at_call 41; (with_reducible refine (HCL.out _ ((Hr.out.below HB4.out).more HB4.out.size)).mono ?_); rintro e w5 ⟨v5, he, hown5, hb5⟩; obtain rfl := he; have HB5 := Lib.hid (HB4.out.trans (hb5.mono HB4.out.size)); have HO5 := Lib.hid (own_mono hown5 HB4.out.size); clear hb5 hown5; obtain ⟨g5, c5, hv5, hc5, hm5⟩ := own_posM HO5.out hn0; subst hv5)
        | (go_at_call 37; (with_reducible refine (slot_zero g5 n c5 q _ hqn hc5 hm5).mono ?_); rintro e w6 ⟨he, hw6⟩; obtain rfl := he; obtain rfl := hw6; obtain ⟨w7, hrun7, hown7, hg7⟩ := run_clear24 (off := q) (dCap := c5 - q) (m := 16) HO5.out (by decide) hqn; have HB7 := Lib.hid (HB5.out.grown hg7 HB5.out.size (fun k hk => (HO5.out.lt k hk).1)); have HO7 := Lib.hid hown7; clear hown7 hg7)
        | (go_at_call 43; (with_reducible refine (HTR.out g5 c5 _ (own_rdp HO7.out) hc5 hm5).mono ?_); rintro e w8 ⟨he, hb8⟩; obtain rfl := he; have HO8 := Lib.hid (own_below HO7.out hb8); have HB8 := Lib.hid (HB7.out.trans (hb8.mono HB7.out.size)); clear hb8))
      go_ret2
      exact ⟨_, by rw [HZ.out]; rfl, by rw [HZ.out]; show World.ownsRow _ _ _ _ _ out.length (bytesV out); rw [HLM.out, HCT.out]; exact own_prefix HO8.out HMN.out, HB8.out⟩
    · have hie : idxOf S s.data.toList * 16 = n := by have := idx_le S s.data.toList; omega
      rw [hie] at HSE
      have HZ := Lib.hid (hR.trans (remE_none hP hf))
      clear hn hr hP hc hm hR hd hde hls hf hie
      go_enter Try.func25, Try.ntmps25
      go_wp2_with (first
        | (go_at_call 18; (with_reducible refine HAL.out.mono ?_); rintro e w1 ⟨v, he, hown, hb⟩; obtain rfl := he; have HB1 := Lib.hid hb; clear hown hb; simp only)
        | (go_at_call 38; (with_reducible refine (HSE.out _ ((Hr.out.below HB1.out).more HB1.out.size)).mono ?_); rintro e w3 ⟨he, hb3⟩; obtain rfl := he; have HB4 := Lib.hid (HB1.out.trans (hb3.mono HB1.out.size)); clear hb3))
      go_ret2
      exact hands_nil HZ.out HB4.out
end Go.Proofs.Ytlopndnjkphdnaa.Entry
