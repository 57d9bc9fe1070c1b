/-
  EntrySet: whatever is added and removed (the first 60 acts, of names of up to 100 bytes), what was added is found till it is removed, no other name is changed, and the directory ends with an entry.
-/
import Derived.Test.YtlopndnjkphdnaaSetA
namespace Go.Proofs.Ytlopndnjkphdnaa
open Go.ChangeShapes Go.WideShapes Go.ChangeAt Go.RowKit Entry

set_option maxHeartbeats 6400000 in
set_option maxRecDepth 100000 in
theorem set_walk (l : List Ac) (A0 : Option Addr) (n0 c0 : Nat) (w : World) (hn : l.length = n0) (hc : n0 ≤ c0) (hm : c0 ≤ maxLen) (hr : Acts w w.heap.size A0 l) :
    Calls Try.prog 7 #[.slice A0 n0 c0] w fun e w' => e = .returned (.bool true) ∧ Below w.heap.size w w' := by
  have Hn := Lib.hid hn
  have Hr := Lib.hid hr
  have HC := Lib.hid (And.intro hc hm)
  clear hn hr hc hm
  have hmm := @run_makeMap Try.prog
  go_enter Try.func7, Try.ntmps7
  go_wp2_with (first
    | (go_at_call 10; (with_reducible refine (shown_any _).mono ?_); rintro e w1 ⟨he, hb1⟩; obtain rfl := he; have HB1 := Lib.hid hb1; have HBM := Lib.hid (hb1.alloc hb1.size (.map #[] 0)); have HAC := Lib.hid (Hr.out.below (hb1.alloc hb1.size (.map #[] 0))); have HSM := Lib.hid (show w.heap.size ≤ (w1.alloc (.map #[] 0)).heap.size from (hb1.alloc hb1.size (.map #[] 0)).size); clear hb1)
    | (go_at_call 27; (with_reducible refine (acts_any l A0 n0 c0 _ Hn.out HC.out.1 HC.out.2 (HAC.out.more HSM.out)).mono ?_); rintro e w2 ⟨p, he, hp, hp60, hsz, hw2⟩; obtain rfl := he; subst hw2; have HSZ := Lib.hid hsz; clear hsz))
  have hst : St w (w1.alloc (.map #[] 0)) w1.heap.size [] [] none 0 0 :=
    ⟨.inl rfl, dir_nil, by simp [Tight], rfl, ⟨Nat.le_refl _, by decide⟩, MapIs.made w1 _ _ 0, HBM.out, HB1.out.size⟩
  have HST := Lib.hid hst
  clear hst
  go_loopw [4, 28] (fun v z wr => ∃ (j : Nat) (S : List Slot) (A : Option Addr) (q c : Nat), z = .int .i64 (j : Int) ∧ v = .slice A q c ∧ j ≤ p ∧ S.length ≤ j ∧ St w wr w1.heap.size S S A q c) (fun _ z _ => p - (intOf z).toNat)
  case atStart => exact ⟨0, [], none, 0, 0, rfl, rfl, Nat.zero_le _, Nat.le_refl _, HST.out⟩
  case round =>
    obtain ⟨j, S, A, q, c, rfl, rfl, hj, hSj, hst⟩ := hrel
    have ST := Lib.hid hst
    clear hst HST
    by_cases hlt : j < p
    · have hlti : (j : Int) < (p : Int) := by omega
      have hj0 : (0 : Int) ≤ (j : Int) := by omega
      have hjw : IntKind.i64.wrap ((j : Int) + 1) = ((j + 1 : Nat) : Int) := by rw [IntKind.wrap_i64]; omega
      have hS240 : S.length < 240 := by omega
      obtain ⟨a, ha⟩ : ∃ a, l[j]? = some a := ⟨_, List.getElem?_eq_getElem (by rw [Hn.out]; omega)⟩
      have hs := HSZ.out j a hlt ha
      obtain ⟨bA, oA, hA0, hg, d0, d1, d2⟩ := (Hr.out.below ST.out.bel).lies ha
      subst hA0
      obtain ⟨gone, s, i⟩ := a
      simp only at hs d0 d1 d2
      have hSok : Sok s := hg.s
      have hgi : I64 i := ⟨hg.lo, hg.hi⟩
      have HGI := Lib.hid hgi
      have HSOK := Lib.hid hSok
      clear ha hg hgi
      have hV := Bk.new wr 48 [.bool gone, .string s, .int .i64 i]
      have HV := Lib.hid (show Bk (wr.alloc (.cells #[.bool gone, .string s, .int .i64 i] 48)) wr.heap.size 48 [.bool gone, .string s, .int .i64 i] from hV)
      have SA := Lib.hid (ST.out.below (alloc_below wr (.cells #[.bool gone, .string s, .int .i64 i] 48)))
      have hlk := SA.out.look hSok
      have hgm : ¬ wr.heap.size = w1.heap.size := by have := (MapIs.lt ST.out.map); omega
      have HGM := Lib.hid hgm
      clear hV hSok hgm
      cases gone with
      | true =>
        cases hF : fnd S s.data.toList with
        | some k =>
          as_aux_lemma =>
            replace hlk : (Instr.lookup 45 (.map (some w1.heap.size)) (.string s) true).run Try.prog (wr.alloc (.cells #[.bool true, .string s, .int .i64 i] 48)) = .ok (.tuple #[.int .i64 (k : Int), .bool true]) (wr.alloc (.cells #[.bool true, .string s, .int .i64 i] 48)) := by
              unfold atS thS at hlk
              rw [hF] at hlk
              exact hlk
            have hk64 : ¬ (64 : Int) < (k : Int) := by have := fnd_lt ST.out.dir hF; omega
            have HF := Lib.hid hF
            obtain ⟨q2, hq2⟩ : ∃ q2, q2 = (del S s.data.toList).length * 16 := ⟨_, rfl⟩
            have HQ2 := Lib.hid hq2
            have hry := SA.out.remove_yes hs hF
            rw [← hq2] at hry
            have HRY := Lib.hid hry
            clear hF hry hq2
            obtain ⟨m, hmE⟩ : ∃ m, (ents (del S s.data.toList)).length = m := ⟨_, rfl⟩
            have HM := Lib.hid hmE
            have HM61 := Lib.hid (show m ≤ 61 by have h1 : (ents (del S s.data.toList)).length ≤ ((del S s.data.toList)).length := List.length_filterMap_le _ _; have h2 := length_del_le S s.data.toList; omega)
            have hq16 : ((((q2 : Nat) : Int) % 16) != 0) = false := by have := HQ2.out; simp; omega
            rcases Nat.eq_zero_or_pos m with hm0 | hm0
            · have hme : ((m : Int) == 0) = true := by simp; omega
              have hmp : ¬ (0 : Int) < (m : Int) := by omega
              have hS0 : (del S s.data.toList) = [] := tight_empty (tight_cutEnd _) (List.eq_nil_of_length_eq_zero (by omega))
              have hqp : ¬ (0 : Int) < ((q2 : Nat) : Int) := by have := HQ2.out; rw [hS0] at this; simp at this; omega
              clear hS0

              clear hmE
              go_wp2_with (first
                | (go_at_call 25; (with_reducible refine HRY.out.mono ?_); rintro e w2 ⟨A2, c2, he, hc2, hm2, hr2, hb2⟩; obtain rfl := he; have S2 := Lib.hid (SA.out.bytes hb2 (dir_del SA.out.dir _) (tight_cutEnd _) hr2 HQ2.out ⟨hc2, hm2⟩); have V2 := Lib.hid (HV.out.below hb2 HV.out.lt); obtain ⟨x0, x1, x2⟩ := act_cells V2.out; clear hb2 hr2 hc2 hm2)
                | (at_delete; refine wpList_mdel (R := plainElem (H := Unit) Try.prog 3) (dat := fun x => .lit (.int .i64 x)) (z := (0 : Int)) rfl (.tmp 64) (.tmp 67) rfl Try.underlying45 rfl S2.out.map (s := s) HSOK.out rfl ?_; intro w5 hM5 hG5; have S5 := Lib.hid (S2.out.put (need_del SA.out.dir HF.out hM5) hG5); clear hM5 hG5)
                | (go_at_call 18; (with_reducible refine (S5.out.all HM.out).mono ?_); rintro e w8 ⟨A8, c8, he, hr8, hb8⟩; obtain rfl := he; have S8 := Lib.hid (S5.out.below hb8); have HR8 := Lib.hid hr8; have hlen := S8.out.lenm HM.out; clear hb8 hr8))
              clear hlen
              go_loopw [155] (fun z wr2 => z = .int .i64 0 ∧ wr2 = w8) (fun _ _ => 0)
              case atStart => exact ⟨rfl, rfl⟩
              case round =>
                obtain ⟨rfl, rfl⟩ := hrel
                go_wp2
                go_roundw
                case rel => exact ⟨j + 1, (del S s.data.toList), A2, q2, c2, by first | rfl | (congr 1), rfl, hlt, (by have := length_del_le S s.data.toList; omega), S8.out⟩
                case measure => simp [intOf]; omega
            · have hme : ((m : Int) == 0) = false := by simp; omega
              have hmp : (0 : Int) < (m : Int) := by omega

              clear hmE
              go_wp2_with (first
                | (go_at_call 25; (with_reducible refine HRY.out.mono ?_); rintro e w2 ⟨A2, c2, he, hc2, hm2, hr2, hb2⟩; obtain rfl := he; have S2 := Lib.hid (SA.out.bytes hb2 (dir_del SA.out.dir _) (tight_cutEnd _) hr2 HQ2.out ⟨hc2, hm2⟩); have V2 := Lib.hid (HV.out.below hb2 HV.out.lt); obtain ⟨x0, x1, x2⟩ := act_cells V2.out; clear hb2 hr2 hc2 hm2)
                | (at_delete; refine wpList_mdel (R := plainElem (H := Unit) Try.prog 3) (dat := fun x => .lit (.int .i64 x)) (z := (0 : Int)) rfl (.tmp 64) (.tmp 67) rfl Try.underlying45 rfl S2.out.map (s := s) HSOK.out rfl ?_; intro w5 hM5 hG5; have S5 := Lib.hid (S2.out.put (need_del SA.out.dir HF.out hM5) hG5); clear hM5 hG5)
                | (go_at_call 18; (with_reducible refine (S5.out.all HM.out).mono ?_); rintro e w8 ⟨A8, c8, he, hr8, hb8⟩; obtain rfl := he; have S8 := Lib.hid (S5.out.below hb8); have HR8 := Lib.hid hr8; have hlen := S8.out.lenm HM.out; clear hb8 hr8))
              obtain ⟨b8, o8, rfl, -⟩ := rd_ents HR8.out (by rw [HM.out]; exact hm0)
              clear hlen
              go_loopw [155] (fun z wr2 => ∃ i2 : Nat, z = .int .i64 (i2 : Int) ∧ i2 ≤ m ∧ St w wr2 w1.heap.size (del S s.data.toList) (del S s.data.toList) A2 q2 c2 ∧ Rd wr2 wr2.heap.size (some ⟨b8, o8, none⟩) (rowsG entC (ents (del S s.data.toList)))) (fun z _ => m - (intOf z).toNat)
              case atStart => exact ⟨0, rfl, Nat.zero_le _, S8.out, HR8.out⟩
              case round =>
                obtain ⟨i2, rfl, hi2, hst2, hr2⟩ := hrel
                have T2 := Lib.hid hst2
                have R2 := Lib.hid hr2
                clear hst2 hr2
                by_cases hlt2 : i2 < m
                · have hlti2 : (i2 : Int) < (m : Int) := by omega
                  have hi20 : (0 : Int) ≤ (i2 : Int) := by omega
                  have hi2w : IntKind.i64.wrap ((i2 : Int) + 1) = ((i2 + 1 : Nat) : Int) := by rw [IntKind.wrap_i64]; have := HM61.out; omega
                  obtain ⟨x, hx⟩ : ∃ x, (ents (del S s.data.toList))[i2]? = some x := ⟨_, List.getElem?_eq_getElem (by rw [HM.out]; exact hlt2)⟩
                  obtain ⟨d0, d1⟩ := rd_ent R2.out hx
                  have hxm : some x ∈ (del S s.data.toList) := mem_ents.1 (List.mem_of_getElem? hx)
                  have HXM := Lib.hid hxm
                  have T3 := Lib.hid (T2.out.below (alloc_below wr (.cells #[.string ⟨x.n.toArray⟩, .int .i64 (x.i : Int)] 23)))
                  have R3 := Lib.hid ((R2.out.below (alloc_below wr (.cells #[.string ⟨x.n.toArray⟩, .int .i64 (x.i : Int)] 23))).more (alloc_below wr (.cells #[.string ⟨x.n.toArray⟩, .int .i64 (x.i : Int)] 23)).size)
                  have hlk2 := look_of T3.out hxm
                  clear hx hxm
                  go_wp2_with (first
                    | (go_at_call 20; (with_reducible refine (T3.out.find HXM.out).mono ?_); rintro e w9 ⟨he, hb9⟩; obtain rfl := he; obtain ⟨hk9, -, -⟩ := kept_ent hb9; obtain ⟨z0, z1⟩ := ent_cells hk9; have T4 := Lib.hid (T3.out.below hb9); have R4 := Lib.hid ((R3.out.below hb9).more hb9.size); clear hb9 hk9))
                  go_roundw
                  case rel => exact ⟨i2 + 1, by first | rfl | (congr 1), hlt2, T4.out, R4.out⟩
                  case measure => simp [intOf]; omega
                · obtain rfl : i2 = m := by omega
                  go_wp2
                  go_roundw
                  case rel => exact ⟨j + 1, (del S s.data.toList), A2, q2, c2, by first | rfl | (congr 1), rfl, hlt, (by have := length_del_le S s.data.toList; omega), T2.out⟩
                  case measure => simp [intOf]; omega
        | none =>
          as_aux_lemma =>
            replace hlk : (Instr.lookup 45 (.map (some w1.heap.size)) (.string s) true).run Try.prog (wr.alloc (.cells #[.bool true, .string s, .int .i64 i] 48)) = .ok (.tuple #[.int .i64 0, .bool false]) (wr.alloc (.cells #[.bool true, .string s, .int .i64 i] 48)) := by
              unfold atS thS at hlk
              rw [hF] at hlk
              exact hlk
            have HF := Lib.hid hF
            clear hF
            obtain ⟨m, hmE⟩ : ∃ m, (ents S).length = m := ⟨_, rfl⟩
            have HM := Lib.hid hmE
            have HM61 := Lib.hid (show m ≤ 61 by have h1 : (ents S).length ≤ (S).length := List.length_filterMap_le _ _; have h2 := Nat.le_refl S.length; omega)
            have hq16 : ((((q : Nat) : Int) % 16) != 0) = false := by have := ST.out.len; simp; omega
            rcases Nat.eq_zero_or_pos m with hm0 | hm0
            · have hme : ((m : Int) == 0) = true := by simp; omega
              have hmp : ¬ (0 : Int) < (m : Int) := by omega
              have hS0 : S = [] := tight_empty ST.out.tight (List.eq_nil_of_length_eq_zero (by omega))
              have hqp : ¬ (0 : Int) < ((q : Nat) : Int) := by have := ST.out.len; rw [hS0] at this; simp at this; omega
              clear hS0

              clear hmE
              go_wp2_with (first
                | (go_at_call 25; (with_reducible refine (SA.out.remove_no hs HF.out).mono ?_); rintro e w2 ⟨v2, he, hb2⟩; obtain rfl := he; have S2 := Lib.hid (SA.out.below hb2); have V2 := Lib.hid (HV.out.below hb2 HV.out.lt); obtain ⟨x0, x1, x2⟩ := act_cells V2.out; clear hb2)
                | (go_at_call 18; (with_reducible refine (S2.out.all HM.out).mono ?_); rintro e w8 ⟨A8, c8, he, hr8, hb8⟩; obtain rfl := he; have S8 := Lib.hid (S2.out.below hb8); have HR8 := Lib.hid hr8; have hlen := S8.out.lenm HM.out; clear hb8 hr8))
              clear hlen
              go_loopw [155] (fun z wr2 => z = .int .i64 0 ∧ wr2 = w8) (fun _ _ => 0)
              case atStart => exact ⟨rfl, rfl⟩
              case round =>
                obtain ⟨rfl, rfl⟩ := hrel
                go_wp2
                go_roundw
                case rel => exact ⟨j + 1, S, A, q, c, by first | rfl | (congr 1), rfl, hlt, (by omega), S8.out⟩
                case measure => simp [intOf]; omega
            · have hme : ((m : Int) == 0) = false := by simp; omega
              have hmp : (0 : Int) < (m : Int) := by omega

              clear hmE
              go_wp2_with (first
                | (go_at_call 25; (with_reducible refine (SA.out.remove_no hs HF.out).mono ?_); rintro e w2 ⟨v2, he, hb2⟩; obtain rfl := he; have S2 := Lib.hid (SA.out.below hb2); have V2 := Lib.hid (HV.out.below hb2 HV.out.lt); obtain ⟨x0, x1, x2⟩ := act_cells V2.out; clear hb2)
                | (go_at_call 18; (with_reducible refine (S2.out.all HM.out).mono ?_); rintro e w8 ⟨A8, c8, he, hr8, hb8⟩; obtain rfl := he; have S8 := Lib.hid (S2.out.below hb8); have HR8 := Lib.hid hr8; have hlen := S8.out.lenm HM.out; clear hb8 hr8))
              obtain ⟨b8, o8, rfl, -⟩ := rd_ents HR8.out (by rw [HM.out]; exact hm0)
              clear hlen
              go_loopw [155] (fun z wr2 => ∃ i2 : Nat, z = .int .i64 (i2 : Int) ∧ i2 ≤ m ∧ St w wr2 w1.heap.size S S A q c ∧ Rd wr2 wr2.heap.size (some ⟨b8, o8, none⟩) (rowsG entC (ents S))) (fun z _ => m - (intOf z).toNat)
              case atStart => exact ⟨0, rfl, Nat.zero_le _, S8.out, HR8.out⟩
              case round =>
                obtain ⟨i2, rfl, hi2, hst2, hr2⟩ := hrel
                have T2 := Lib.hid hst2
                have R2 := Lib.hid hr2
                clear hst2 hr2
                by_cases hlt2 : i2 < m
                · have hlti2 : (i2 : Int) < (m : Int) := by omega
                  have hi20 : (0 : Int) ≤ (i2 : Int) := by omega
                  have hi2w : IntKind.i64.wrap ((i2 : Int) + 1) = ((i2 + 1 : Nat) : Int) := by rw [IntKind.wrap_i64]; have := HM61.out; omega
                  obtain ⟨x, hx⟩ : ∃ x, (ents S)[i2]? = some x := ⟨_, List.getElem?_eq_getElem (by rw [HM.out]; exact hlt2)⟩
                  obtain ⟨d0, d1⟩ := rd_ent R2.out hx
                  have hxm : some x ∈ S := mem_ents.1 (List.mem_of_getElem? hx)
                  have HXM := Lib.hid hxm
                  have T3 := Lib.hid (T2.out.below (alloc_below wr (.cells #[.string ⟨x.n.toArray⟩, .int .i64 (x.i : Int)] 23)))
                  have R3 := Lib.hid ((R2.out.below (alloc_below wr (.cells #[.string ⟨x.n.toArray⟩, .int .i64 (x.i : Int)] 23))).more (alloc_below wr (.cells #[.string ⟨x.n.toArray⟩, .int .i64 (x.i : Int)] 23)).size)
                  have hlk2 := look_of T3.out hxm
                  clear hx hxm
                  go_wp2_with (first
                    | (go_at_call 20; (with_reducible refine (T3.out.find HXM.out).mono ?_); rintro e w9 ⟨he, hb9⟩; obtain rfl := he; obtain ⟨hk9, -, -⟩ := kept_ent hb9; obtain ⟨z0, z1⟩ := ent_cells hk9; have T4 := Lib.hid (T3.out.below hb9); have R4 := Lib.hid ((R3.out.below hb9).more hb9.size); clear hb9 hk9))
                  go_roundw
                  case rel => exact ⟨i2 + 1, by first | rfl | (congr 1), hlt2, T4.out, R4.out⟩
                  case measure => simp [intOf]; omega
                · obtain rfl : i2 = m := by omega
                  go_wp2
                  go_roundw
                  case rel => exact ⟨j + 1, S, A, q, c, by first | rfl | (congr 1), rfl, hlt, (by omega), T2.out⟩
                  case measure => simp [intOf]; omega
      | false =>
        cases hN : nameB s.data.toList
        · skip
          as_aux_lemma =>
            have hF := fnd_valid ST.out.dir hN
            replace hlk : (Instr.lookup 45 (.map (some w1.heap.size)) (.string s) true).run Try.prog (wr.alloc (.cells #[.bool false, .string s, .int .i64 i] 48)) = .ok (.tuple #[.int .i64 0, .bool false]) (wr.alloc (.cells #[.bool false, .string s, .int .i64 i] 48)) := by
              unfold atS thS at hlk
              rw [hF] at hlk
              exact hlk
            have HR16 : Hid (∀ W, Calls Try.prog 16 #[.string s] W fun e w' => e = .returned (.bool false) ∧ Below W.heap.size W w') := Lib.hid fun W => by
              have := right_any s W
              rwa [hN] at this
            obtain ⟨m, hmE⟩ : ∃ m, (ents S).length = m := ⟨_, rfl⟩
            have HM := Lib.hid hmE
            have HM61 := Lib.hid (show m ≤ 61 by have h1 : (ents S).length ≤ (S).length := List.length_filterMap_le _ _; have h2 := Nat.le_refl S.length; omega)
            have hq16 : ((((q : Nat) : Int) % 16) != 0) = false := by have := ST.out.len; simp; omega
            rcases Nat.eq_zero_or_pos m with hm0 | hm0
            · have hme : ((m : Int) == 0) = true := by simp; omega
              have hmp : ¬ (0 : Int) < (m : Int) := by omega
              have hS0 : S = [] := tight_empty ST.out.tight (List.eq_nil_of_length_eq_zero (by omega))
              have hqp : ¬ (0 : Int) < ((q : Nat) : Int) := by have := ST.out.len; rw [hS0] at this; simp at this; omega
              clear hS0

              clear hmE
              go_wp2_with (first
                | (go_at_call 23; (with_reducible refine (SA.out.add_name hs hN).mono ?_); rintro e w2 ⟨v2, he, hb2⟩; obtain rfl := he; have S2 := Lib.hid (SA.out.below hb2); have V2 := Lib.hid (HV.out.below hb2 HV.out.lt); obtain ⟨x0, x1, x2⟩ := act_cells V2.out; clear hb2)
                | (go_at_call 16; (with_reducible refine (HR16.out _).mono ?_); rintro e w3 ⟨he, hb3⟩; obtain rfl := he; have S3 := Lib.hid (S2.out.below hb3); have V3 := Lib.hid (V2.out.below hb3 V2.out.lt); obtain ⟨y0, y1, y2⟩ := act_cells V3.out; clear hb3 x0 x1 x2)
                | (go_at_call 18; (with_reducible refine (S3.out.all HM.out).mono ?_); rintro e w8 ⟨A8, c8, he, hr8, hb8⟩; obtain rfl := he; have S8 := Lib.hid (S3.out.below hb8); have HR8 := Lib.hid hr8; have hlen := S8.out.lenm HM.out; clear hb8 hr8))
              clear hlen
              go_loopw [155] (fun z wr2 => z = .int .i64 0 ∧ wr2 = w8) (fun _ _ => 0)
              case atStart => exact ⟨rfl, rfl⟩
              case round =>
                obtain ⟨rfl, rfl⟩ := hrel
                go_wp2
                go_roundw
                case rel => exact ⟨j + 1, S, A, q, c, by first | rfl | (congr 1), rfl, hlt, (by omega), S8.out⟩
                case measure => simp [intOf]; omega
            · have hme : ((m : Int) == 0) = false := by simp; omega
              have hmp : (0 : Int) < (m : Int) := by omega

              clear hmE
              go_wp2_with (first
                | (go_at_call 23; (with_reducible refine (SA.out.add_name hs hN).mono ?_); rintro e w2 ⟨v2, he, hb2⟩; obtain rfl := he; have S2 := Lib.hid (SA.out.below hb2); have V2 := Lib.hid (HV.out.below hb2 HV.out.lt); obtain ⟨x0, x1, x2⟩ := act_cells V2.out; clear hb2)
                | (go_at_call 16; (with_reducible refine (HR16.out _).mono ?_); rintro e w3 ⟨he, hb3⟩; obtain rfl := he; have S3 := Lib.hid (S2.out.below hb3); have V3 := Lib.hid (V2.out.below hb3 V2.out.lt); obtain ⟨y0, y1, y2⟩ := act_cells V3.out; clear hb3 x0 x1 x2)
                | (go_at_call 18; (with_reducible refine (S3.out.all HM.out).mono ?_); rintro e w8 ⟨A8, c8, he, hr8, hb8⟩; obtain rfl := he; have S8 := Lib.hid (S3.out.below hb8); have HR8 := Lib.hid hr8; have hlen := S8.out.lenm HM.out; clear hb8 hr8))
              obtain ⟨b8, o8, rfl, -⟩ := rd_ents HR8.out (by rw [HM.out]; exact hm0)
              clear hlen
              go_loopw [155] (fun z wr2 => ∃ i2 : Nat, z = .int .i64 (i2 : Int) ∧ i2 ≤ m ∧ St w wr2 w1.heap.size S S A q c ∧ Rd wr2 wr2.heap.size (some ⟨b8, o8, none⟩) (rowsG entC (ents S))) (fun z _ => m - (intOf z).toNat)
              case atStart => exact ⟨0, rfl, Nat.zero_le _, S8.out, HR8.out⟩
              case round =>
                obtain ⟨i2, rfl, hi2, hst2, hr2⟩ := hrel
                have T2 := Lib.hid hst2
                have R2 := Lib.hid hr2
                clear hst2 hr2
                by_cases hlt2 : i2 < m
                · have hlti2 : (i2 : Int) < (m : Int) := by omega
                  have hi20 : (0 : Int) ≤ (i2 : Int) := by omega
                  have hi2w : IntKind.i64.wrap ((i2 : Int) + 1) = ((i2 + 1 : Nat) : Int) := by rw [IntKind.wrap_i64]; have := HM61.out; omega
                  obtain ⟨x, hx⟩ : ∃ x, (ents S)[i2]? = some x := ⟨_, List.getElem?_eq_getElem (by rw [HM.out]; exact hlt2)⟩
                  obtain ⟨d0, d1⟩ := rd_ent R2.out hx
                  have hxm : some x ∈ S := mem_ents.1 (List.mem_of_getElem? hx)
                  have HXM := Lib.hid hxm
                  have T3 := Lib.hid (T2.out.below (alloc_below wr (.cells #[.string ⟨x.n.toArray⟩, .int .i64 (x.i : Int)] 23)))
                  have R3 := Lib.hid ((R2.out.below (alloc_below wr (.cells #[.string ⟨x.n.toArray⟩, .int .i64 (x.i : Int)] 23))).more (alloc_below wr (.cells #[.string ⟨x.n.toArray⟩, .int .i64 (x.i : Int)] 23)).size)
                  have hlk2 := look_of T3.out hxm
                  clear hx hxm
                  go_wp2_with (first
                    | (go_at_call 20; (with_reducible refine (T3.out.find HXM.out).mono ?_); rintro e w9 ⟨he, hb9⟩; obtain rfl := he; obtain ⟨hk9, -, -⟩ := kept_ent hb9; obtain ⟨z0, z1⟩ := ent_cells hk9; have T4 := Lib.hid (T3.out.below hb9); have R4 := Lib.hid ((R3.out.below hb9).more hb9.size); clear hb9 hk9))
                  go_roundw
                  case rel => exact ⟨i2 + 1, by first | rfl | (congr 1), hlt2, T4.out, R4.out⟩
                  case measure => simp [intOf]; omega
                · obtain rfl : i2 = m := by omega
                  go_wp2
                  go_roundw
                  case rel => exact ⟨j + 1, S, A, q, c, by first | rfl | (congr 1), rfl, hlt, (by omega), T2.out⟩
                  case measure => simp [intOf]; omega
        · by_cases hi : 0 ≤ i ∧ i < 64
          · obtain ⟨hi0, hi1⟩ := hi
            cases hF : fnd S s.data.toList with
            | none =>
              as_aux_lemma =>
                replace hlk : (Instr.lookup 45 (.map (some w1.heap.size)) (.string s) true).run Try.prog (wr.alloc (.cells #[.bool false, .string s, .int .i64 i] 48)) = .ok (.tuple #[.int .i64 0, .bool false]) (wr.alloc (.cells #[.bool false, .string s, .int .i64 i] 48)) := by
                  unfold atS thS at hlk
                  rw [hF] at hlk
                  exact hlk
                have HF := Lib.hid hF
                have HR16 : Hid (∀ W, Calls Try.prog 16 #[.string s] W fun e w' => e = .returned (.bool true) ∧ Below W.heap.size W w') := Lib.hid fun W => by
                  have := right_any s W
                  rwa [hN] at this
                have hx : Ok ⟨s.data.toList, i.toNat⟩ := ⟨hN, show i.toNat < 64 by omega⟩
                have HDP := Lib.hid (dir_put ST.out.dir hx (not_names ST.out.dir hF) (.inr hS240))
                obtain ⟨q2, hq2⟩ : ∃ q2, q2 = (Entry.put S ⟨s.data.toList, i.toNat⟩).length * 16 := ⟨_, rfl⟩
                have HQ2 := Lib.hid hq2
                have hry := SA.out.add_yes hs hN hi0 hi1 hF hS240
                rw [← hq2] at hry
                have HRY := Lib.hid hry
                have HMLT := Lib.hid (show (ents S).length < maxLen by have h1 : (ents S).length ≤ S.length := List.length_filterMap_le _ _; unfold maxLen; omega)
                clear hF hx hry hq2
                obtain ⟨m, hmE⟩ : ∃ m, (ents (Entry.put S ⟨s.data.toList, i.toNat⟩)).length = m := ⟨_, rfl⟩
                have HM := Lib.hid hmE
                have HM61 := Lib.hid (show m ≤ 61 by have h1 : (ents (Entry.put S ⟨s.data.toList, i.toNat⟩)).length ≤ ((Entry.put S ⟨s.data.toList, i.toNat⟩)).length := List.length_filterMap_le _ _; have h2 := length_put_le S ⟨s.data.toList, i.toNat⟩; omega)
                have hq16 : ((((q2 : Nat) : Int) % 16) != 0) = false := by have := HQ2.out; simp; omega
                have hm0 : 0 < m := by
                  rw [← hmE]
                  exact by rw [length_put_ents]; omega
                have hme : ((m : Int) == 0) = false := by simp; omega
                have hmp : (0 : Int) < (m : Int) := by omega

                clear hmE
                go_wp2_with (first
                  | (go_at_call 23; (with_reducible refine HRY.out.mono ?_); rintro e w2 ⟨A2, c2, he, hc2, hm2, hr2, hb2⟩; obtain rfl := he; have S2 := Lib.hid (SA.out.bytes hb2 HDP.out (tight_put SA.out.tight) hr2 HQ2.out ⟨hc2, hm2⟩); have V2 := Lib.hid (HV.out.below hb2 HV.out.lt); obtain ⟨x0, x1, x2⟩ := act_cells V2.out; clear hb2 hr2 hc2 hm2)
                  | (go_at_call 16; (with_reducible refine (HR16.out _).mono ?_); rintro e w3 ⟨he, hb3⟩; obtain rfl := he; have S3 := Lib.hid (S2.out.below hb3); have V3 := Lib.hid (V2.out.below hb3 V2.out.lt); obtain ⟨y0, y1, y2⟩ := act_cells V3.out; clear hb3 x0 x1 x2)
                  | (at_mapUpdate; refine wpList_mput (β := Int) (enc := Value.int .i64) rfl (.tmp 116) (.tmp 119) (.tmp 122) rfl intE Try.underlying45 rfl S3.out.map HMLT.out HSOK.out rfl (x := i) HGI.out rfl ?_; intro w5 hM5 hG5; have S5 := Lib.hid (S3.out.put (need_put SA.out.dir hi0 HF.out hM5) hG5); clear hM5 hG5)
                  | (go_at_call 18; (with_reducible refine (S5.out.all HM.out).mono ?_); rintro e w8 ⟨A8, c8, he, hr8, hb8⟩; obtain rfl := he; have S8 := Lib.hid (S5.out.below hb8); have HR8 := Lib.hid hr8; have hlen := S8.out.lenm HM.out; clear hb8 hr8))
                obtain ⟨b8, o8, rfl, -⟩ := rd_ents HR8.out (by rw [HM.out]; exact hm0)
                clear hlen
                go_loopw [155] (fun z wr2 => ∃ i2 : Nat, z = .int .i64 (i2 : Int) ∧ i2 ≤ m ∧ St w wr2 w1.heap.size (Entry.put S ⟨s.data.toList, i.toNat⟩) (Entry.put S ⟨s.data.toList, i.toNat⟩) A2 q2 c2 ∧ Rd wr2 wr2.heap.size (some ⟨b8, o8, none⟩) (rowsG entC (ents (Entry.put S ⟨s.data.toList, i.toNat⟩)))) (fun z _ => m - (intOf z).toNat)
                case atStart => exact ⟨0, rfl, Nat.zero_le _, S8.out, HR8.out⟩
                case round =>
                  obtain ⟨i2, rfl, hi2, hst2, hr2⟩ := hrel
                  have T2 := Lib.hid hst2
                  have R2 := Lib.hid hr2
                  clear hst2 hr2
                  by_cases hlt2 : i2 < m
                  · have hlti2 : (i2 : Int) < (m : Int) := by omega
                    have hi20 : (0 : Int) ≤ (i2 : Int) := by omega
                    have hi2w : IntKind.i64.wrap ((i2 : Int) + 1) = ((i2 + 1 : Nat) : Int) := by rw [IntKind.wrap_i64]; have := HM61.out; omega
                    obtain ⟨x, hx⟩ : ∃ x, (ents (Entry.put S ⟨s.data.toList, i.toNat⟩))[i2]? = some x := ⟨_, List.getElem?_eq_getElem (by rw [HM.out]; exact hlt2)⟩
                    obtain ⟨d0, d1⟩ := rd_ent R2.out hx
                    have hxm : some x ∈ (Entry.put S ⟨s.data.toList, i.toNat⟩) := mem_ents.1 (List.mem_of_getElem? hx)
                    have HXM := Lib.hid hxm
                    have T3 := Lib.hid (T2.out.below (alloc_below wr (.cells #[.string ⟨x.n.toArray⟩, .int .i64 (x.i : Int)] 23)))
                    have R3 := Lib.hid ((R2.out.below (alloc_below wr (.cells #[.string ⟨x.n.toArray⟩, .int .i64 (x.i : Int)] 23))).more (alloc_below wr (.cells #[.string ⟨x.n.toArray⟩, .int .i64 (x.i : Int)] 23)).size)
                    have hlk2 := look_of T3.out hxm
                    clear hx hxm
                    go_wp2_with (first
                      | (go_at_call 20; (with_reducible refine (T3.out.find HXM.out).mono ?_); rintro e w9 ⟨he, hb9⟩; obtain rfl := he; obtain ⟨hk9, -, -⟩ := kept_ent hb9; obtain ⟨z0, z1⟩ := ent_cells hk9; have T4 := Lib.hid (T3.out.below hb9); have R4 := Lib.hid ((R3.out.below hb9).more hb9.size); clear hb9 hk9))
                    go_roundw
                    case rel => exact ⟨i2 + 1, by first | rfl | (congr 1), hlt2, T4.out, R4.out⟩
                    case measure => simp [intOf]; omega
                  · obtain rfl : i2 = m := by omega
                    go_wp2
                    go_roundw
                    case rel => exact ⟨j + 1, (Entry.put S ⟨s.data.toList, i.toNat⟩), A2, q2, c2, by first | rfl | (congr 1), rfl, hlt, (by have := length_put_le S ⟨s.data.toList, i.toNat⟩; omega), T2.out⟩
                    case measure => simp [intOf]; omega
            | some k =>
              as_aux_lemma =>
                replace hlk : (Instr.lookup 45 (.map (some w1.heap.size)) (.string s) true).run Try.prog (wr.alloc (.cells #[.bool false, .string s, .int .i64 i] 48)) = .ok (.tuple #[.int .i64 (k : Int), .bool true]) (wr.alloc (.cells #[.bool false, .string s, .int .i64 i] 48)) := by
                  unfold atS thS at hlk
                  rw [hF] at hlk
                  exact hlk
                have hk64 : ¬ (64 : Int) < (k : Int) := by have := fnd_lt ST.out.dir hF; omega
                have HF := Lib.hid hF
                have HR16 : Hid (∀ W, Calls Try.prog 16 #[.string s] W fun e w' => e = .returned (.bool true) ∧ Below W.heap.size W w') := Lib.hid fun W => by
                  have := right_any s W
                  rwa [hN] at this
                obtain ⟨m, hmE⟩ : ∃ m, (ents S).length = m := ⟨_, rfl⟩
                have HM := Lib.hid hmE
                have HM61 := Lib.hid (show m ≤ 61 by have h1 : (ents S).length ≤ (S).length := List.length_filterMap_le _ _; have h2 := Nat.le_refl S.length; omega)
                have hq16 : ((((q : Nat) : Int) % 16) != 0) = false := by have := ST.out.len; simp; omega
                have hm0 : 0 < m := by
                  rw [← hmE]
                  exact by obtain ⟨y, hy, _, _⟩ := fnd_some hF; exact List.length_pos_of_mem (mem_ents.2 hy)
                have hme : ((m : Int) == 0) = false := by simp; omega
                have hmp : (0 : Int) < (m : Int) := by omega

                clear hmE
                go_wp2_with (first
                  | (go_at_call 23; (with_reducible refine (SA.out.add_there hs hN hi0 hi1 HF.out).mono ?_); rintro e w2 ⟨v2, he, hb2⟩; obtain rfl := he; have S2 := Lib.hid (SA.out.below hb2); have V2 := Lib.hid (HV.out.below hb2 HV.out.lt); obtain ⟨x0, x1, x2⟩ := act_cells V2.out; clear hb2)
                  | (go_at_call 16; (with_reducible refine (HR16.out _).mono ?_); rintro e w3 ⟨he, hb3⟩; obtain rfl := he; have S3 := Lib.hid (S2.out.below hb3); have V3 := Lib.hid (V2.out.below hb3 V2.out.lt); obtain ⟨y0, y1, y2⟩ := act_cells V3.out; clear hb3 x0 x1 x2)
                  | (go_at_call 18; (with_reducible refine (S3.out.all HM.out).mono ?_); rintro e w8 ⟨A8, c8, he, hr8, hb8⟩; obtain rfl := he; have S8 := Lib.hid (S3.out.below hb8); have HR8 := Lib.hid hr8; have hlen := S8.out.lenm HM.out; clear hb8 hr8))
                obtain ⟨b8, o8, rfl, -⟩ := rd_ents HR8.out (by rw [HM.out]; exact hm0)
                clear hlen
                go_loopw [155] (fun z wr2 => ∃ i2 : Nat, z = .int .i64 (i2 : Int) ∧ i2 ≤ m ∧ St w wr2 w1.heap.size S S A q c ∧ Rd wr2 wr2.heap.size (some ⟨b8, o8, none⟩) (rowsG entC (ents S))) (fun z _ => m - (intOf z).toNat)
                case atStart => exact ⟨0, rfl, Nat.zero_le _, S8.out, HR8.out⟩
                case round =>
                  obtain ⟨i2, rfl, hi2, hst2, hr2⟩ := hrel
                  have T2 := Lib.hid hst2
                  have R2 := Lib.hid hr2
                  clear hst2 hr2
                  by_cases hlt2 : i2 < m
                  · have hlti2 : (i2 : Int) < (m : Int) := by omega
                    have hi20 : (0 : Int) ≤ (i2 : Int) := by omega
                    have hi2w : IntKind.i64.wrap ((i2 : Int) + 1) = ((i2 + 1 : Nat) : Int) := by rw [IntKind.wrap_i64]; have := HM61.out; omega
                    obtain ⟨x, hx⟩ : ∃ x, (ents S)[i2]? = some x := ⟨_, List.getElem?_eq_getElem (by rw [HM.out]; exact hlt2)⟩
                    obtain ⟨d0, d1⟩ := rd_ent R2.out hx
                    have hxm : some x ∈ S := mem_ents.1 (List.mem_of_getElem? hx)
                    have HXM := Lib.hid hxm
                    have T3 := Lib.hid (T2.out.below (alloc_below wr (.cells #[.string ⟨x.n.toArray⟩, .int .i64 (x.i : Int)] 23)))
                    have R3 := Lib.hid ((R2.out.below (alloc_below wr (.cells #[.string ⟨x.n.toArray⟩, .int .i64 (x.i : Int)] 23))).more (alloc_below wr (.cells #[.string ⟨x.n.toArray⟩, .int .i64 (x.i : Int)] 23)).size)
                    have hlk2 := look_of T3.out hxm
                    clear hx hxm
                    go_wp2_with (first
                      | (go_at_call 20; (with_reducible refine (T3.out.find HXM.out).mono ?_); rintro e w9 ⟨he, hb9⟩; obtain rfl := he; obtain ⟨hk9, -, -⟩ := kept_ent hb9; obtain ⟨z0, z1⟩ := ent_cells hk9; have T4 := Lib.hid (T3.out.below hb9); have R4 := Lib.hid ((R3.out.below hb9).more hb9.size); clear hb9 hk9))
                    go_roundw
                    case rel => exact ⟨i2 + 1, by first | rfl | (congr 1), hlt2, T4.out, R4.out⟩
                    case measure => simp [intOf]; omega
                  · obtain rfl : i2 = m := by omega
                    go_wp2
                    go_roundw
                    case rel => exact ⟨j + 1, S, A, q, c, by first | rfl | (congr 1), rfl, hlt, (by omega), T2.out⟩
                    case measure => simp [intOf]; omega
          · by_cases hlo : 0 ≤ i
            · have hhi : ¬ i < 64 := fun h => hi ⟨hlo, h⟩
              cases hF : fnd S s.data.toList with
              | none =>
                as_aux_lemma =>
                  replace hlk : (Instr.lookup 45 (.map (some w1.heap.size)) (.string s) true).run Try.prog (wr.alloc (.cells #[.bool false, .string s, .int .i64 i] 48)) = .ok (.tuple #[.int .i64 0, .bool false]) (wr.alloc (.cells #[.bool false, .string s, .int .i64 i] 48)) := by
                    unfold atS thS at hlk
                    rw [hF] at hlk
                    exact hlk
                  have HR16 : Hid (∀ W, Calls Try.prog 16 #[.string s] W fun e w' => e = .returned (.bool true) ∧ Below W.heap.size W w') := Lib.hid fun W => by
                    have := right_any s W
                    rwa [hN] at this
                  obtain ⟨m, hmE⟩ : ∃ m, (ents S).length = m := ⟨_, rfl⟩
                  have HM := Lib.hid hmE
                  have HM61 := Lib.hid (show m ≤ 61 by have h1 : (ents S).length ≤ (S).length := List.length_filterMap_le _ _; have h2 := Nat.le_refl S.length; omega)
                  have hq16 : ((((q : Nat) : Int) % 16) != 0) = false := by have := ST.out.len; simp; omega
                  rcases Nat.eq_zero_or_pos m with hm0 | hm0
                  · have hme : ((m : Int) == 0) = true := by simp; omega
                    have hmp : ¬ (0 : Int) < (m : Int) := by omega
                    have hS0 : S = [] := tight_empty ST.out.tight (List.eq_nil_of_length_eq_zero (by omega))
                    have hqp : ¬ (0 : Int) < ((q : Nat) : Int) := by have := ST.out.len; rw [hS0] at this; simp at this; omega
                    clear hS0

                    clear hmE
                    go_wp2_with (first
                      | (go_at_call 23; (with_reducible refine (SA.out.add_ino hs hN hi).mono ?_); rintro e w2 ⟨v2, he, hb2⟩; obtain rfl := he; have S2 := Lib.hid (SA.out.below hb2); have V2 := Lib.hid (HV.out.below hb2 HV.out.lt); obtain ⟨x0, x1, x2⟩ := act_cells V2.out; clear hb2)
                      | (go_at_call 16; (with_reducible refine (HR16.out _).mono ?_); rintro e w3 ⟨he, hb3⟩; obtain rfl := he; have S3 := Lib.hid (S2.out.below hb3); have V3 := Lib.hid (V2.out.below hb3 V2.out.lt); obtain ⟨y0, y1, y2⟩ := act_cells V3.out; clear hb3 x0 x1 x2)
                      | (go_at_call 18; (with_reducible refine (S3.out.all HM.out).mono ?_); rintro e w8 ⟨A8, c8, he, hr8, hb8⟩; obtain rfl := he; have S8 := Lib.hid (S3.out.below hb8); have HR8 := Lib.hid hr8; have hlen := S8.out.lenm HM.out; clear hb8 hr8))
                    clear hlen
                    go_loopw [155] (fun z wr2 => z = .int .i64 0 ∧ wr2 = w8) (fun _ _ => 0)
                    case atStart => exact ⟨rfl, rfl⟩
                    case round =>
                      obtain ⟨rfl, rfl⟩ := hrel
                      go_wp2
                      go_roundw
                      case rel => exact ⟨j + 1, S, A, q, c, by first | rfl | (congr 1), rfl, hlt, (by omega), S8.out⟩
                      case measure => simp [intOf]; omega
                  · have hme : ((m : Int) == 0) = false := by simp; omega
                    have hmp : (0 : Int) < (m : Int) := by omega

                    clear hmE
                    go_wp2_with (first
                      | (go_at_call 23; (with_reducible refine (SA.out.add_ino hs hN hi).mono ?_); rintro e w2 ⟨v2, he, hb2⟩; obtain rfl := he; have S2 := Lib.hid (SA.out.below hb2); have V2 := Lib.hid (HV.out.below hb2 HV.out.lt); obtain ⟨x0, x1, x2⟩ := act_cells V2.out; clear hb2)
                      | (go_at_call 16; (with_reducible refine (HR16.out _).mono ?_); rintro e w3 ⟨he, hb3⟩; obtain rfl := he; have S3 := Lib.hid (S2.out.below hb3); have V3 := Lib.hid (V2.out.below hb3 V2.out.lt); obtain ⟨y0, y1, y2⟩ := act_cells V3.out; clear hb3 x0 x1 x2)
                      | (go_at_call 18; (with_reducible refine (S3.out.all HM.out).mono ?_); rintro e w8 ⟨A8, c8, he, hr8, hb8⟩; obtain rfl := he; have S8 := Lib.hid (S3.out.below hb8); have HR8 := Lib.hid hr8; have hlen := S8.out.lenm HM.out; clear hb8 hr8))
                    obtain ⟨b8, o8, rfl, -⟩ := rd_ents HR8.out (by rw [HM.out]; exact hm0)
                    clear hlen
                    go_loopw [155] (fun z wr2 => ∃ i2 : Nat, z = .int .i64 (i2 : Int) ∧ i2 ≤ m ∧ St w wr2 w1.heap.size S S A q c ∧ Rd wr2 wr2.heap.size (some ⟨b8, o8, none⟩) (rowsG entC (ents S))) (fun z _ => m - (intOf z).toNat)
                    case atStart => exact ⟨0, rfl, Nat.zero_le _, S8.out, HR8.out⟩
                    case round =>
                      obtain ⟨i2, rfl, hi2, hst2, hr2⟩ := hrel
                      have T2 := Lib.hid hst2
                      have R2 := Lib.hid hr2
                      clear hst2 hr2
                      by_cases hlt2 : i2 < m
                      · have hlti2 : (i2 : Int) < (m : Int) := by omega
                        have hi20 : (0 : Int) ≤ (i2 : Int) := by omega
                        have hi2w : IntKind.i64.wrap ((i2 : Int) + 1) = ((i2 + 1 : Nat) : Int) := by rw [IntKind.wrap_i64]; have := HM61.out; omega
                        obtain ⟨x, hx⟩ : ∃ x, (ents S)[i2]? = some x := ⟨_, List.getElem?_eq_getElem (by rw [HM.out]; exact hlt2)⟩
                        obtain ⟨d0, d1⟩ := rd_ent R2.out hx
                        have hxm : some x ∈ S := mem_ents.1 (List.mem_of_getElem? hx)
                        have HXM := Lib.hid hxm
                        have T3 := Lib.hid (T2.out.below (alloc_below wr (.cells #[.string ⟨x.n.toArray⟩, .int .i64 (x.i : Int)] 23)))
                        have R3 := Lib.hid ((R2.out.below (alloc_below wr (.cells #[.string ⟨x.n.toArray⟩, .int .i64 (x.i : Int)] 23))).more (alloc_below wr (.cells #[.string ⟨x.n.toArray⟩, .int .i64 (x.i : Int)] 23)).size)
                        have hlk2 := look_of T3.out hxm
                        clear hx hxm
                        go_wp2_with (first
                          | (go_at_call 20; (with_reducible refine (T3.out.find HXM.out).mono ?_); rintro e w9 ⟨he, hb9⟩; obtain rfl := he; obtain ⟨hk9, -, -⟩ := kept_ent hb9; obtain ⟨z0, z1⟩ := ent_cells hk9; have T4 := Lib.hid (T3.out.below hb9); have R4 := Lib.hid ((R3.out.below hb9).more hb9.size); clear hb9 hk9))
                        go_roundw
                        case rel => exact ⟨i2 + 1, by first | rfl | (congr 1), hlt2, T4.out, R4.out⟩
                        case measure => simp [intOf]; omega
                      · obtain rfl : i2 = m := by omega
                        go_wp2
                        go_roundw
                        case rel => exact ⟨j + 1, S, A, q, c, by first | rfl | (congr 1), rfl, hlt, (by omega), T2.out⟩
                        case measure => simp [intOf]; omega
              | some k =>
                as_aux_lemma =>
                  replace hlk : (Instr.lookup 45 (.map (some w1.heap.size)) (.string s) true).run Try.prog (wr.alloc (.cells #[.bool false, .string s, .int .i64 i] 48)) = .ok (.tuple #[.int .i64 (k : Int), .bool true]) (wr.alloc (.cells #[.bool false, .string s, .int .i64 i] 48)) := by
                    unfold atS thS at hlk
                    rw [hF] at hlk
                    exact hlk
                  have hk64 : ¬ (64 : Int) < (k : Int) := by have := fnd_lt ST.out.dir hF; omega
                  have HR16 : Hid (∀ W, Calls Try.prog 16 #[.string s] W fun e w' => e = .returned (.bool true) ∧ Below W.heap.size W w') := Lib.hid fun W => by
                    have := right_any s W
                    rwa [hN] at this
                  obtain ⟨m, hmE⟩ : ∃ m, (ents S).length = m := ⟨_, rfl⟩
                  have HM := Lib.hid hmE
                  have HM61 := Lib.hid (show m ≤ 61 by have h1 : (ents S).length ≤ (S).length := List.length_filterMap_le _ _; have h2 := Nat.le_refl S.length; omega)
                  have hq16 : ((((q : Nat) : Int) % 16) != 0) = false := by have := ST.out.len; simp; omega
                  have hm0 : 0 < m := by
                    rw [← hmE]
                    exact by obtain ⟨y, hy, _, _⟩ := fnd_some hF; exact List.length_pos_of_mem (mem_ents.2 hy)
                  have hme : ((m : Int) == 0) = false := by simp; omega
                  have hmp : (0 : Int) < (m : Int) := by omega

                  clear hmE
                  go_wp2_with (first
                    | (go_at_call 23; (with_reducible refine (SA.out.add_ino hs hN hi).mono ?_); rintro e w2 ⟨v2, he, hb2⟩; obtain rfl := he; have S2 := Lib.hid (SA.out.below hb2); have V2 := Lib.hid (HV.out.below hb2 HV.out.lt); obtain ⟨x0, x1, x2⟩ := act_cells V2.out; clear hb2)
                    | (go_at_call 16; (with_reducible refine (HR16.out _).mono ?_); rintro e w3 ⟨he, hb3⟩; obtain rfl := he; have S3 := Lib.hid (S2.out.below hb3); have V3 := Lib.hid (V2.out.below hb3 V2.out.lt); obtain ⟨y0, y1, y2⟩ := act_cells V3.out; clear hb3 x0 x1 x2)
                    | (go_at_call 18; (with_reducible refine (S3.out.all HM.out).mono ?_); rintro e w8 ⟨A8, c8, he, hr8, hb8⟩; obtain rfl := he; have S8 := Lib.hid (S3.out.below hb8); have HR8 := Lib.hid hr8; have hlen := S8.out.lenm HM.out; clear hb8 hr8))
                  obtain ⟨b8, o8, rfl, -⟩ := rd_ents HR8.out (by rw [HM.out]; exact hm0)
                  clear hlen
                  go_loopw [155] (fun z wr2 => ∃ i2 : Nat, z = .int .i64 (i2 : Int) ∧ i2 ≤ m ∧ St w wr2 w1.heap.size S S A q c ∧ Rd wr2 wr2.heap.size (some ⟨b8, o8, none⟩) (rowsG entC (ents S))) (fun z _ => m - (intOf z).toNat)
                  case atStart => exact ⟨0, rfl, Nat.zero_le _, S8.out, HR8.out⟩
                  case round =>
                    obtain ⟨i2, rfl, hi2, hst2, hr2⟩ := hrel
                    have T2 := Lib.hid hst2
                    have R2 := Lib.hid hr2
                    clear hst2 hr2
                    by_cases hlt2 : i2 < m
                    · have hlti2 : (i2 : Int) < (m : Int) := by omega
                      have hi20 : (0 : Int) ≤ (i2 : Int) := by omega
                      have hi2w : IntKind.i64.wrap ((i2 : Int) + 1) = ((i2 + 1 : Nat) : Int) := by rw [IntKind.wrap_i64]; have := HM61.out; omega
                      obtain ⟨x, hx⟩ : ∃ x, (ents S)[i2]? = some x := ⟨_, List.getElem?_eq_getElem (by rw [HM.out]; exact hlt2)⟩
                      obtain ⟨d0, d1⟩ := rd_ent R2.out hx
                      have hxm : some x ∈ S := mem_ents.1 (List.mem_of_getElem? hx)
                      have HXM := Lib.hid hxm
                      have T3 := Lib.hid (T2.out.below (alloc_below wr (.cells #[.string ⟨x.n.toArray⟩, .int .i64 (x.i : Int)] 23)))
                      have R3 := Lib.hid ((R2.out.below (alloc_below wr (.cells #[.string ⟨x.n.toArray⟩, .int .i64 (x.i : Int)] 23))).more (alloc_below wr (.cells #[.string ⟨x.n.toArray⟩, .int .i64 (x.i : Int)] 23)).size)
                      have hlk2 := look_of T3.out hxm
                      clear hx hxm
                      go_wp2_with (first
                        | (go_at_call 20; (with_reducible refine (T3.out.find HXM.out).mono ?_); rintro e w9 ⟨he, hb9⟩; obtain rfl := he; obtain ⟨hk9, -, -⟩ := kept_ent hb9; obtain ⟨z0, z1⟩ := ent_cells hk9; have T4 := Lib.hid (T3.out.below hb9); have R4 := Lib.hid ((R3.out.below hb9).more hb9.size); clear hb9 hk9))
                      go_roundw
                      case rel => exact ⟨i2 + 1, by first | rfl | (congr 1), hlt2, T4.out, R4.out⟩
                      case measure => simp [intOf]; omega
                    · obtain rfl : i2 = m := by omega
                      go_wp2
                      go_roundw
                      case rel => exact ⟨j + 1, S, A, q, c, by first | rfl | (congr 1), rfl, hlt, (by omega), T2.out⟩
                      case measure => simp [intOf]; omega
            · cases hF : fnd S s.data.toList with
              | none =>
                as_aux_lemma =>
                  replace hlk : (Instr.lookup 45 (.map (some w1.heap.size)) (.string s) true).run Try.prog (wr.alloc (.cells #[.bool false, .string s, .int .i64 i] 48)) = .ok (.tuple #[.int .i64 0, .bool false]) (wr.alloc (.cells #[.bool false, .string s, .int .i64 i] 48)) := by
                    unfold atS thS at hlk
                    rw [hF] at hlk
                    exact hlk
                  have HR16 : Hid (∀ W, Calls Try.prog 16 #[.string s] W fun e w' => e = .returned (.bool true) ∧ Below W.heap.size W w') := Lib.hid fun W => by
                    have := right_any s W
                    rwa [hN] at this
                  obtain ⟨m, hmE⟩ : ∃ m, (ents S).length = m := ⟨_, rfl⟩
                  have HM := Lib.hid hmE
                  have HM61 := Lib.hid (show m ≤ 61 by have h1 : (ents S).length ≤ (S).length := List.length_filterMap_le _ _; have h2 := Nat.le_refl S.length; omega)
                  have hq16 : ((((q : Nat) : Int) % 16) != 0) = false := by have := ST.out.len; simp; omega
                  rcases Nat.eq_zero_or_pos m with hm0 | hm0
                  · have hme : ((m : Int) == 0) = true := by simp; omega
                    have hmp : ¬ (0 : Int) < (m : Int) := by omega
                    have hS0 : S = [] := tight_empty ST.out.tight (List.eq_nil_of_length_eq_zero (by omega))
                    have hqp : ¬ (0 : Int) < ((q : Nat) : Int) := by have := ST.out.len; rw [hS0] at this; simp at this; omega
                    clear hS0

                    clear hmE
                    go_wp2_with (first
                      | (go_at_call 23; (with_reducible refine (SA.out.add_ino hs hN hi).mono ?_); rintro e w2 ⟨v2, he, hb2⟩; obtain rfl := he; have S2 := Lib.hid (SA.out.below hb2); have V2 := Lib.hid (HV.out.below hb2 HV.out.lt); obtain ⟨x0, x1, x2⟩ := act_cells V2.out; clear hb2)
                      | (go_at_call 16; (with_reducible refine (HR16.out _).mono ?_); rintro e w3 ⟨he, hb3⟩; obtain rfl := he; have S3 := Lib.hid (S2.out.below hb3); have V3 := Lib.hid (V2.out.below hb3 V2.out.lt); obtain ⟨y0, y1, y2⟩ := act_cells V3.out; clear hb3 x0 x1 x2)
                      | (go_at_call 18; (with_reducible refine (S3.out.all HM.out).mono ?_); rintro e w8 ⟨A8, c8, he, hr8, hb8⟩; obtain rfl := he; have S8 := Lib.hid (S3.out.below hb8); have HR8 := Lib.hid hr8; have hlen := S8.out.lenm HM.out; clear hb8 hr8))
                    clear hlen
                    go_loopw [155] (fun z wr2 => z = .int .i64 0 ∧ wr2 = w8) (fun _ _ => 0)
                    case atStart => exact ⟨rfl, rfl⟩
                    case round =>
                      obtain ⟨rfl, rfl⟩ := hrel
                      go_wp2
                      go_roundw
                      case rel => exact ⟨j + 1, S, A, q, c, by first | rfl | (congr 1), rfl, hlt, (by omega), S8.out⟩
                      case measure => simp [intOf]; omega
                  · have hme : ((m : Int) == 0) = false := by simp; omega
                    have hmp : (0 : Int) < (m : Int) := by omega

                    clear hmE
                    go_wp2_with (first
                      | (go_at_call 23; (with_reducible refine (SA.out.add_ino hs hN hi).mono ?_); rintro e w2 ⟨v2, he, hb2⟩; obtain rfl := he; have S2 := Lib.hid (SA.out.below hb2); have V2 := Lib.hid (HV.out.below hb2 HV.out.lt); obtain ⟨x0, x1, x2⟩ := act_cells V2.out; clear hb2)
                      | (go_at_call 16; (with_reducible refine (HR16.out _).mono ?_); rintro e w3 ⟨he, hb3⟩; obtain rfl := he; have S3 := Lib.hid (S2.out.below hb3); have V3 := Lib.hid (V2.out.below hb3 V2.out.lt); obtain ⟨y0, y1, y2⟩ := act_cells V3.out; clear hb3 x0 x1 x2)
                      | (go_at_call 18; (with_reducible refine (S3.out.all HM.out).mono ?_); rintro e w8 ⟨A8, c8, he, hr8, hb8⟩; obtain rfl := he; have S8 := Lib.hid (S3.out.below hb8); have HR8 := Lib.hid hr8; have hlen := S8.out.lenm HM.out; clear hb8 hr8))
                    obtain ⟨b8, o8, rfl, -⟩ := rd_ents HR8.out (by rw [HM.out]; exact hm0)
                    clear hlen
                    go_loopw [155] (fun z wr2 => ∃ i2 : Nat, z = .int .i64 (i2 : Int) ∧ i2 ≤ m ∧ St w wr2 w1.heap.size S S A q c ∧ Rd wr2 wr2.heap.size (some ⟨b8, o8, none⟩) (rowsG entC (ents S))) (fun z _ => m - (intOf z).toNat)
                    case atStart => exact ⟨0, rfl, Nat.zero_le _, S8.out, HR8.out⟩
                    case round =>
                      obtain ⟨i2, rfl, hi2, hst2, hr2⟩ := hrel
                      have T2 := Lib.hid hst2
                      have R2 := Lib.hid hr2
                      clear hst2 hr2
                      by_cases hlt2 : i2 < m
                      · have hlti2 : (i2 : Int) < (m : Int) := by omega
                        have hi20 : (0 : Int) ≤ (i2 : Int) := by omega
                        have hi2w : IntKind.i64.wrap ((i2 : Int) + 1) = ((i2 + 1 : Nat) : Int) := by rw [IntKind.wrap_i64]; have := HM61.out; omega
                        obtain ⟨x, hx⟩ : ∃ x, (ents S)[i2]? = some x := ⟨_, List.getElem?_eq_getElem (by rw [HM.out]; exact hlt2)⟩
                        obtain ⟨d0, d1⟩ := rd_ent R2.out hx
                        have hxm : some x ∈ S := mem_ents.1 (List.mem_of_getElem? hx)
                        have HXM := Lib.hid hxm
                        have T3 := Lib.hid (T2.out.below (alloc_below wr (.cells #[.string ⟨x.n.toArray⟩, .int .i64 (x.i : Int)] 23)))
                        have R3 := Lib.hid ((R2.out.below (alloc_below wr (.cells #[.string ⟨x.n.toArray⟩, .int .i64 (x.i : Int)] 23))).more (alloc_below wr (.cells #[.string ⟨x.n.toArray⟩, .int .i64 (x.i : Int)] 23)).size)
                        have hlk2 := look_of T3.out hxm
                        clear hx hxm
                        go_wp2_with (first
                          | (go_at_call 20; (with_reducible refine (T3.out.find HXM.out).mono ?_); rintro e w9 ⟨he, hb9⟩; obtain rfl := he; obtain ⟨hk9, -, -⟩ := kept_ent hb9; obtain ⟨z0, z1⟩ := ent_cells hk9; have T4 := Lib.hid (T3.out.below hb9); have R4 := Lib.hid ((R3.out.below hb9).more hb9.size); clear hb9 hk9))
                        go_roundw
                        case rel => exact ⟨i2 + 1, by first | rfl | (congr 1), hlt2, T4.out, R4.out⟩
                        case measure => simp [intOf]; omega
                      · obtain rfl : i2 = m := by omega
                        go_wp2
                        go_roundw
                        case rel => exact ⟨j + 1, S, A, q, c, by first | rfl | (congr 1), rfl, hlt, (by omega), T2.out⟩
                        case measure => simp [intOf]; omega
              | some k =>
                as_aux_lemma =>
                  replace hlk : (Instr.lookup 45 (.map (some w1.heap.size)) (.string s) true).run Try.prog (wr.alloc (.cells #[.bool false, .string s, .int .i64 i] 48)) = .ok (.tuple #[.int .i64 (k : Int), .bool true]) (wr.alloc (.cells #[.bool false, .string s, .int .i64 i] 48)) := by
                    unfold atS thS at hlk
                    rw [hF] at hlk
                    exact hlk
                  have hk64 : ¬ (64 : Int) < (k : Int) := by have := fnd_lt ST.out.dir hF; omega
                  have HR16 : Hid (∀ W, Calls Try.prog 16 #[.string s] W fun e w' => e = .returned (.bool true) ∧ Below W.heap.size W w') := Lib.hid fun W => by
                    have := right_any s W
                    rwa [hN] at this
                  obtain ⟨m, hmE⟩ : ∃ m, (ents S).length = m := ⟨_, rfl⟩
                  have HM := Lib.hid hmE
                  have HM61 := Lib.hid (show m ≤ 61 by have h1 : (ents S).length ≤ (S).length := List.length_filterMap_le _ _; have h2 := Nat.le_refl S.length; omega)
                  have hq16 : ((((q : Nat) : Int) % 16) != 0) = false := by have := ST.out.len; simp; omega
                  have hm0 : 0 < m := by
                    rw [← hmE]
                    exact by obtain ⟨y, hy, _, _⟩ := fnd_some hF; exact List.length_pos_of_mem (mem_ents.2 hy)
                  have hme : ((m : Int) == 0) = false := by simp; omega
                  have hmp : (0 : Int) < (m : Int) := by omega

                  clear hmE
                  go_wp2_with (first
                    | (go_at_call 23; (with_reducible refine (SA.out.add_ino hs hN hi).mono ?_); rintro e w2 ⟨v2, he, hb2⟩; obtain rfl := he; have S2 := Lib.hid (SA.out.below hb2); have V2 := Lib.hid (HV.out.below hb2 HV.out.lt); obtain ⟨x0, x1, x2⟩ := act_cells V2.out; clear hb2)
                    | (go_at_call 16; (with_reducible refine (HR16.out _).mono ?_); rintro e w3 ⟨he, hb3⟩; obtain rfl := he; have S3 := Lib.hid (S2.out.below hb3); have V3 := Lib.hid (V2.out.below hb3 V2.out.lt); obtain ⟨y0, y1, y2⟩ := act_cells V3.out; clear hb3 x0 x1 x2)
                    | (go_at_call 18; (with_reducible refine (S3.out.all HM.out).mono ?_); rintro e w8 ⟨A8, c8, he, hr8, hb8⟩; obtain rfl := he; have S8 := Lib.hid (S3.out.below hb8); have HR8 := Lib.hid hr8; have hlen := S8.out.lenm HM.out; clear hb8 hr8))
                  obtain ⟨b8, o8, rfl, -⟩ := rd_ents HR8.out (by rw [HM.out]; exact hm0)
                  clear hlen
                  go_loopw [155] (fun z wr2 => ∃ i2 : Nat, z = .int .i64 (i2 : Int) ∧ i2 ≤ m ∧ St w wr2 w1.heap.size S S A q c ∧ Rd wr2 wr2.heap.size (some ⟨b8, o8, none⟩) (rowsG entC (ents S))) (fun z _ => m - (intOf z).toNat)
                  case atStart => exact ⟨0, rfl, Nat.zero_le _, S8.out, HR8.out⟩
                  case round =>
                    obtain ⟨i2, rfl, hi2, hst2, hr2⟩ := hrel
                    have T2 := Lib.hid hst2
                    have R2 := Lib.hid hr2
                    clear hst2 hr2
                    by_cases hlt2 : i2 < m
                    · have hlti2 : (i2 : Int) < (m : Int) := by omega
                      have hi20 : (0 : Int) ≤ (i2 : Int) := by omega
                      have hi2w : IntKind.i64.wrap ((i2 : Int) + 1) = ((i2 + 1 : Nat) : Int) := by rw [IntKind.wrap_i64]; have := HM61.out; omega
                      obtain ⟨x, hx⟩ : ∃ x, (ents S)[i2]? = some x := ⟨_, List.getElem?_eq_getElem (by rw [HM.out]; exact hlt2)⟩
                      obtain ⟨d0, d1⟩ := rd_ent R2.out hx
                      have hxm : some x ∈ S := mem_ents.1 (List.mem_of_getElem? hx)
                      have HXM := Lib.hid hxm
                      have T3 := Lib.hid (T2.out.below (alloc_below wr (.cells #[.string ⟨x.n.toArray⟩, .int .i64 (x.i : Int)] 23)))
                      have R3 := Lib.hid ((R2.out.below (alloc_below wr (.cells #[.string ⟨x.n.toArray⟩, .int .i64 (x.i : Int)] 23))).more (alloc_below wr (.cells #[.string ⟨x.n.toArray⟩, .int .i64 (x.i : Int)] 23)).size)
                      have hlk2 := look_of T3.out hxm
                      clear hx hxm
                      go_wp2_with (first
                        | (go_at_call 20; (with_reducible refine (T3.out.find HXM.out).mono ?_); rintro e w9 ⟨he, hb9⟩; obtain rfl := he; obtain ⟨hk9, -, -⟩ := kept_ent hb9; obtain ⟨z0, z1⟩ := ent_cells hk9; have T4 := Lib.hid (T3.out.below hb9); have R4 := Lib.hid ((R3.out.below hb9).more hb9.size); clear hb9 hk9))
                      go_roundw
                      case rel => exact ⟨i2 + 1, by first | rfl | (congr 1), hlt2, T4.out, R4.out⟩
                      case measure => simp [intOf]; omega
                    · obtain rfl : i2 = m := by omega
                      go_wp2
                      go_roundw
                      case rel => exact ⟨j + 1, S, A, q, c, by first | rfl | (congr 1), rfl, hlt, (by omega), T2.out⟩
                      case measure => simp [intOf]; omega
    · obtain rfl : j = p := by omega
      go_wp2
      go_ret
      exact ⟨rfl, ST.out.bel⟩

theorem set_contract (H : Type) (enc : TypeId × Value → H) (W : World) (base : Nat) (args : Array Value) (ds gs : List (DataW H)) (before : List MemPlace)
    (hval : ∀ (j : Nat) t v, Try.f7.params[j]? = some t → args[j]? = some v → Value.okWide Try.prog W .any base t v)
    (hW : DataW.Whole enc Try.prog Try.f7.params.toList Rows.entrySetSpec.vars false W args.toList ds gs before) :
    Calls Try.prog 7 args W fun e W' => ∃ v, e = .returned v ∧ Rows.entrySetSpec.post enc Try.prog Try.f7 false true false false W args v W' := by
  have hW' := hW
  have hlt : ∀ x ∈ before, x.block < W.heap.size := fun x hx => hW.lt x hx
  obtain ⟨p, q, hA0, hV, rfl, _, _⟩ := hW
  have hA : DataW.TrodAll enc Try.prog W 0 (fun _ => true) true Try.f7.params.toList args.toList ds p := hA0
  rw [Try.params7] at hA hval
  obtain ⟨v0, vs0, d0, ds0, p0, q0, hargs, rfl, rfl, h0, r0⟩ := trodAll_cons hA
  obtain ⟨rfl, rfl, rfl⟩ := trodAll_nil r0
  obtain rfl : args = #[v0] := by cases args; simp_all
  obtain ⟨rfl, rfl⟩ := trodVars_none hV
  clear hA0
  obtain ⟨A0, n0, c0, l0, rfl, hn0, hc0, hm0, hr0⟩ := open_actsL (hval 0 44 v0 rfl rfl) h0 (fun x hx => hlt x (by simp [hx]))
  unfold maxLen at hm0
  refine (set_walk l0 A0 n0 c0 W hn0 hc0 (by unfold maxLen; omega) hr0).mono fun e W' ⟨he, hb⟩ => ?_
  subst he
  exact ⟨_, rfl, law_post laid (by kernel_rfl) Try.underlying4 (by rw [Try.params7]; decide +kernel) rfl hW' ⟨rfl, rfl, rfl⟩ hb⟩

set_option maxRecDepth 100000 in
theorem set_lifted (os : Os) (started : os.Started) (H : Type) (enc : TypeId × Value → H) :
    ReturnsInHanded {} Try.checked os 7 .any (Rows.entrySetSpec.pre6 enc Try.prog Try.f7 Rows.entrySetRow.domain false) (Rows.entrySetSpec.post enc Try.prog Try.f7 false true false false) := by
  refine returnsInHanded_of_change (C := Try.checked) own started (by kernel_rfl) Try.func7
    (ChangeSpec.witness6 (enc := enc) (C := Try.checked) false ⟨#[], #[.slice none 0 0], []⟩ 8 (by kernel_rfl) (by kernel_rfl) (by kernel_rfl) (by kernel_rfl)) ?_
  intro W base args ds gs before hval hW _ _
  exact set_contract H enc W base args ds gs before hval hW

/-- EntrySet is true for every input. -/
theorem set_holds : Rows.EntrySetSaid :=
  OpenClaim.holds_of_wide 7 Try.f7 rfl rfl rfl rfl rfl rfl rfl ⟨rfl, rfl, rfl, rfl, rfl⟩ rfl rfl rfl rfl rfl (by kernel_rfl) Try.func7 (by kernel_rfl)
    (of_decide_eq_true (by kernel_rfl)) (by unfold Func.isWrapper; first | (rw [if_pos (by decide +kernel)]; kernel_rfl) | (rw [if_neg (by decide +kernel)]; exact ⟨rfl, rfl⟩))
    (fun os started H enc _ => set_lifted os started H enc)
end Go.Proofs.Ytlopndnjkphdnaa
