/-
  A directory's entries: package entry's All.
-/
import Derived.Test.YtlopndnjkphdnaaEntryB
import Derived.Test.YtlopndnjkphdnaaEntryR
namespace Go.Proofs.Ytlopndnjkphdnaa.Entry
open Go.RowKit

/-- Entries, and an error, that a call hands back in memory of their own. -/
def HandsE (w : World) (r : List Ent × Nat) (e : Ending) (w' : World) : Prop :=
  ∃ v, e = .returned (.tuple #[v, .int .i64 (r.2 : Int)]) ∧ w'.ownsRow w.heap.size 23 2 v r.1.length (rowsG entC r.1) ∧ Below w.heap.size w w'
theorem handsE_nil {w w' : World} {r : List Ent × Nat} {k : Nat} (hr : r = ([], k)) (hb : Below w.heap.size w w') : HandsE w r (.returned (.tuple #[.slice none 0 0, .int .i64 (k : Int)])) w' := by
  subst hr
  exact ⟨_, rfl, World.ownsRow_nil _ _ _ _, hb⟩
theorem allE_none {b : List UInt8} (h : dirP hsh b = none) : allE hsh b = ([], 121) := by unfold allE; rw [h]
theorem allE_some {b : List UInt8} {S : List Slot} (h : dirP hsh b = some S) : allE hsh b = (ents S, 0) := by unfold allE; rw [h]
theorem rd_new2 {w W : World} (a b : Value) (e : TypeId) (g : Nat) (hg : g = W.heap.size) (hw : w = W.alloc (.cells #[a, b] e)) : Rd w (g + 1) (some ⟨g, 0, none⟩) [a, b] := by
  subst hg
  subst hw
  exact .inr ⟨W.heap.size, 0, rfl, Nat.lt_succ_self _, fun i v hv => by
    rw [Nat.zero_add, World.cell?_alloc_at _ _ _ _ rfl]
    simpa using hv⟩

set_option maxHeartbeats 1600000 in
set_option maxRecDepth 100000 in
theorem all_any (l : List UInt8) (A : Option Addr) (n c : Nat) (w : World) (hn : l.length = n) (hr : Rd w w.heap.size A (bytesV l)) (hc : n ≤ c) (hm : c ≤ maxLen) :
    Calls Try.prog 18 #[.slice A n c] w fun e w' => HandsE w (allE hsh l) e w' := by
  obtain ⟨R, hR⟩ : ∃ R, R = allE hsh l := ⟨_, rfl⟩
  rw [← hR]
  by_cases h3840 : n ≤ 3840
  · by_cases h16 : n % 16 = 0
    · have h1 : ¬ 3840 < (n : Int) := by omega
      have h2 : ((n : Int) % 16 != 0) = false := by simp; omega
      have HR := Lib.hid hR
      have HN := Lib.hid hn
      have Hr := Lib.hid hr
      have HCM := Lib.hid (And.intro hc hm)
      have HL := Lib.hid (And.intro h3840 h16)
      clear hR hn hr hc hm h16
      go_enter Try.func18, Try.ntmps18
      go_wp2
      go_loopw [4, 5] (fun v k wr => ∃ (S : List Slot) (j q : Nat), k = .int .i64 (q : Int) ∧ Hid (q = j * 16) ∧ q ≤ n ∧ Pre l S j ∧ wr.ownsRow w.heap.size 23 2 v (ents S).length (rowsG entC (ents S)) ∧ Below w.heap.size w wr) (fun _ k _ => n - (intOf k).toNat)
      case atStart => exact ⟨[], 0, 0, rfl, Lib.hid rfl, Nat.zero_le _, Pre.zero _, World.ownsRow_nil _ _ _ _, Below.refl _ _⟩
      case round =>
        obtain ⟨S, j, q, rfl, HQ, hq, hpre, hown, hb⟩ := hrel
        have HP := Lib.hid hpre
        have HO := Lib.hid hown
        have HB := Lib.hid hb
        clear hpre hown hb
        by_cases hlt : q < n
        · have hin : q + 16 ≤ n := by have := HQ.out; have := HL.out.2; omega
          have hlti : (q : Int) < (n : Int) := by omega
          have hq0 : (0 : Int) ≤ (q : Int) := by omega
          have hw2 : IntKind.i64.wrap ((q : Int) + 16) = ((q + 16 : Nat) : Int) := by rw [IntKind.wrap_i64]; omega
          have HQ2 : Hid (q + 16 = (j + 1) * 16) := Lib.hid (by have := HQ.out; omega)
          have hls : ((l.drop q).take 16).length = 16 := by have := HN.out; rw [List.length_take, List.length_drop]; omega
          have HLS := Lib.hid hls
          have hcq : 16 ≤ c - q := by have := HCM.out.1; omega
          have HCQ := Lib.hid hcq
          have hsl : Hid (∀ W2 : World, Below w.heap.size w W2 → Calls Try.prog 37 #[.slice A n c, .int .i64 (q : Int)] W2 fun e w' => ∃ A', e = .returned (.slice A' 16 (c - q)) ∧ Rd W2 w.heap.size A' (bytesV ((l.drop q).take 16)) ∧ W2 = w') := fun W2 h2 =>
            slot_any l _ n c w.heap.size q W2 HN.out (Hr.out.below h2) hin HCM.out.1 HCM.out.2
          obtain ⟨T, hT⟩ : ∃ T, takS hsh ((l.drop q).take 16) = T := ⟨_, rfl⟩
          have HT := Lib.hid hT
          have hT2 : takS hsh ((l.drop (j * 16)).take 16) = T := by rw [← HQ.out]; exact hT
          have HT2 := Lib.hid hT2
          have hjl : j * 16 + 16 ≤ l.length := by rw [HN.out, ← HQ.out]; exact hin
          have HJL := Lib.hid hjl
          clear hls hcq hT hT2 hjl
          cases T with
          | none =>
            have HZ := Lib.hid (HR.out.trans (allE_none (HP.out.bad HJL.out (.inl HT2.out))))
            go_wp2_with (first
              | (go_at_call 37; (with_reducible refine (hsl.out _ HB.out).mono ?_); rintro e w3 ⟨A3, he, hr3, hw3⟩; obtain rfl := he; have HR3 := Lib.hid hr3; clear hr3; obtain rfl := hw3)
              | (go_at_call 13; (with_reducible refine (take_any ((l.drop q).take 16) A3 16 (c - q) _ HLS.out (HR3.out.more HB.out.size) HCQ.out).mono ?_); rintro e w4 ⟨he, hb4⟩; rw [HT.out] at he; obtain rfl := he; have HB4 := Lib.hid (HB.out.trans (hb4.mono HB.out.size)); have HO4 := Lib.hid (own_below HO.out hb4); clear hb4; simp only [slotV, entV]))
            go_region
            go_wp2
            go_ret2
            exact handsE_nil HZ.out (below_drew (HB4.out.trans ((alloc_below _ _).mono HB4.out.size)))
          | some t =>
            cases t with
            | none =>
              have HP2 := Lib.hid (HP.out.step HT2.out (fun x h => by cases h))
              have he0 : ents (S ++ [none]) = ents S := by rw [ents_append]; simp [ents]
              have HE := Lib.hid he0
              clear he0
              go_wp2_with (first
                | (go_at_call 37; (with_reducible refine (hsl.out _ HB.out).mono ?_); rintro e w3 ⟨A3, he, hr3, hw3⟩; obtain rfl := he; have HR3 := Lib.hid hr3; clear hr3; obtain rfl := hw3)
                | (go_at_call 13; (with_reducible refine (take_any ((l.drop q).take 16) A3 16 (c - q) _ HLS.out (HR3.out.more HB.out.size) HCQ.out).mono ?_); rintro e w4 ⟨he, hb4⟩; rw [HT.out] at he; obtain rfl := he; have HB4 := Lib.hid (HB.out.trans (hb4.mono HB.out.size)); have HO4 := Lib.hid (own_below HO.out hb4); clear hb4; simp only [slotV, entV]))
              go_region
              go_wp2
              have HB5 := Lib.hid (show Below w.heap.size w (w4.alloc (.cells #[.string ⟨#[]⟩, .int .i64 0] 23)) from HB4.out.trans ((alloc_below _ _).mono HB4.out.size))
              have HO5 := Lib.hid (show (w4.alloc (.cells #[.string ⟨#[]⟩, .int .i64 0] 23)).ownsRow w.heap.size 23 2 _ (ents (S ++ [none])).length (rowsG entC (ents (S ++ [none]))) by rw [HE.out]; exact HO4.out.alloc _)
              go_roundw
              case rel => exact ⟨S ++ [none], j + 1, q + 16, by first | rfl | (congr 1), HQ2, hin, HP2.out, HO5.out, below_drew HB5.out⟩
              case measure => simp [intOf]; omega
            | some x =>
              have hok : Ok x := (slot_tak HT.out).1 x rfl
              have hxl := name_len hok.name
              have HXS := Lib.hid (show (⟨x.n.toArray⟩ : ByteArray).size ≤ 1000000 by rw [Lib.size_eq]; show x.n.length ≤ _; omega)
              clear hok hxl
              obtain ⟨m, hm⟩ : ∃ m, idxOf S x.n * 16 = m := ⟨_, rfl⟩
              have HM := Lib.hid hm
              by_cases hin2 : m < q
              · have HZ := Lib.hid (HR.out.trans (allE_none (HP.out.bad HJL.out (.inr ⟨x, HT2.out, isN_mem.1 (by rw [HP.out.len]; have := HQ.out; omega)⟩))))
                have hmi : (m : Int) < (q : Int) := by omega
                clear hm
                go_wp2_with (first
                  | (go_at_call 37; (with_reducible refine (hsl.out _ HB.out).mono ?_); rintro e w3 ⟨A3, he, hr3, hw3⟩; obtain rfl := he; have HR3 := Lib.hid hr3; clear hr3; obtain rfl := hw3)
                  | (go_at_call 13; (with_reducible refine (take_any ((l.drop q).take 16) A3 16 (c - q) _ HLS.out (HR3.out.more HB.out.size) HCQ.out).mono ?_); rintro e w4 ⟨he, hb4⟩; rw [HT.out] at he; obtain rfl := he; have HB4 := Lib.hid (HB.out.trans (hb4.mono HB.out.size)); have HO4 := Lib.hid (own_below HO.out hb4); clear hb4; simp only [slotV, entV]))
                have hbA := alloc_below w4 (.cells #[.string ⟨x.n.toArray⟩, .int .i64 (x.i : Int)] 23)
                have hk5 := Bk.new w4 23 [.string ⟨x.n.toArray⟩, .int .i64 (x.i : Int)]
                have HB5 := Lib.hid (below_drew (HB4.out.trans (hbA.mono HB4.out.size)))
                have HO5 := Lib.hid (show (w4.alloc (.cells #[.string ⟨x.n.toArray⟩, .int .i64 (x.i : Int)] 23)).drew.ownsRow w.heap.size 23 2 u4 (ents S).length (rowsG entC (ents S)) from HO4.out.alloc _)
                have HK5 := Lib.hid (show Bk (w4.alloc (.cells #[.string ⟨x.n.toArray⟩, .int .i64 (x.i : Int)] 23)).drew w4.heap.size 23 [.string ⟨x.n.toArray⟩, .int .i64 (x.i : Int)] from hk5)
                clear hbA hk5
                obtain ⟨V, hV⟩ : ∃ V, V = w4.alloc (.cells #[.string ⟨x.n.toArray⟩, .int .i64 (x.i : Int)] 23) := ⟨_, rfl⟩
                rw [← hV] at HB5 HO5 HK5 ⊢
                clear hV
                obtain ⟨c50, c51⟩ := ent_cells HK5.out
                have HC50 := Lib.hid c50
                clear c50 c51
                have hseA : Calls Try.prog 38 #[.slice A q c, .string ⟨x.n.toArray⟩] V.drew fun e w' => e = .returned (.int .i64 ((idxOf S x.n * 16 : Nat) : Int)) ∧ Below V.drew.heap.size V.drew w' :=
                  search_any S HP.out.ok A q c ⟨x.n.toArray⟩ V.drew (by rw [HP.out.len]; exact HQ.out) (by rw [HP.out.here, ← HQ.out, bytesV_take]; exact ((Hr.out.below HB5.out).more HB5.out.size).take q) (by have := HCM.out.1; omega) HCM.out.2 HXS.out (by rw [HP.out.len]; have := HQ.out; have := HL.out.1; omega)
                have HSE := Lib.hid hseA
                clear hseA
                rw [HM.out] at HSE
                have hcq2 : (q : Int) ≤ (c : Int) := by have := HCM.out.1; omega
                go_region_held3 (fun u => u.cell? ⟨w4.heap.size, 0, none⟩ = some (.string ⟨x.n.toArray⟩))
                  (first | with_reducible exact HC50.out | with_reducible exact HC6.out)
                  (first | (go_at_call 38; (with_reducible refine HSE.out.mono ?_); rintro e w6 ⟨he, hb6⟩; obtain rfl := he; have HC6 := Lib.hid ((hb6.cell (p := ⟨w4.heap.size, 0, none⟩) HK5.out.lt).trans HC50.out); have HB6 := Lib.hid (HB5.out.trans (hb6.mono HB5.out.size)); have HO6 := Lib.hid (own_below HO5.out hb6); have HK6 := Lib.hid (HK5.out.below hb6 HK5.out.lt); clear hb6))
                go_wp2
                go_ret2
                exact handsE_nil HZ.out HB6.out
              · have hmi : ¬ (m : Int) < (q : Int) := by omega
                have HP2 := Lib.hid (HP.out.step HT2.out (fun y hy hn => by cases hy; have := isN_mem.2 hn; rw [HP.out.len] at this; have := HQ.out; omega))
                have he0 : ents (S ++ [some x]) = ents S ++ [x] := by rw [ents_append]; simp [ents]
                have HE := Lib.hid he0
                have hel : (ents S).length ≤ 1000 := by
                  have h1 : (ents S).length ≤ S.length := List.length_filterMap_le _ _
                  have := HP.out.len; have := HQ.out; have := HL.out.1
                  omega
                have HEL := Lib.hid hel
                clear hm he0 hel
                go_wp2_with (first
                  | (go_at_call 37; (with_reducible refine (hsl.out _ HB.out).mono ?_); rintro e w3 ⟨A3, he, hr3, hw3⟩; obtain rfl := he; have HR3 := Lib.hid hr3; clear hr3; obtain rfl := hw3)
                  | (go_at_call 13; (with_reducible refine (take_any ((l.drop q).take 16) A3 16 (c - q) _ HLS.out (HR3.out.more HB.out.size) HCQ.out).mono ?_); rintro e w4 ⟨he, hb4⟩; rw [HT.out] at he; obtain rfl := he; have HB4 := Lib.hid (HB.out.trans (hb4.mono HB.out.size)); have HO4 := Lib.hid (own_below HO.out hb4); clear hb4; simp only [slotV, entV]))
                have hbA := alloc_below w4 (.cells #[.string ⟨x.n.toArray⟩, .int .i64 (x.i : Int)] 23)
                have hk5 := Bk.new w4 23 [.string ⟨x.n.toArray⟩, .int .i64 (x.i : Int)]
                have HB5 := Lib.hid (below_drew (HB4.out.trans (hbA.mono HB4.out.size)))
                have HO5 := Lib.hid (show (w4.alloc (.cells #[.string ⟨x.n.toArray⟩, .int .i64 (x.i : Int)] 23)).drew.ownsRow w.heap.size 23 2 u4 (ents S).length (rowsG entC (ents S)) from HO4.out.alloc _)
                have HK5 := Lib.hid (show Bk (w4.alloc (.cells #[.string ⟨x.n.toArray⟩, .int .i64 (x.i : Int)] 23)).drew w4.heap.size 23 [.string ⟨x.n.toArray⟩, .int .i64 (x.i : Int)] from hk5)
                clear hbA hk5
                obtain ⟨V, hV⟩ : ∃ V, V = w4.alloc (.cells #[.string ⟨x.n.toArray⟩, .int .i64 (x.i : Int)] 23) := ⟨_, rfl⟩
                rw [← hV] at HB5 HO5 HK5 ⊢
                clear hV
                obtain ⟨c50, c51⟩ := ent_cells HK5.out
                have HC50 := Lib.hid c50
                clear c50 c51
                have hseA : Calls Try.prog 38 #[.slice A q c, .string ⟨x.n.toArray⟩] V.drew fun e w' => e = .returned (.int .i64 ((idxOf S x.n * 16 : Nat) : Int)) ∧ Below V.drew.heap.size V.drew w' :=
                  search_any S HP.out.ok A q c ⟨x.n.toArray⟩ V.drew (by rw [HP.out.len]; exact HQ.out) (by rw [HP.out.here, ← HQ.out, bytesV_take]; exact ((Hr.out.below HB5.out).more HB5.out.size).take q) (by have := HCM.out.1; omega) HCM.out.2 HXS.out (by rw [HP.out.len]; have := HQ.out; have := HL.out.1; omega)
                have HSE := Lib.hid hseA
                clear hseA
                rw [HM.out] at HSE
                have hcq2 : (q : Int) ≤ (c : Int) := by have := HCM.out.1; omega
                go_region_held3 (fun u => u.cell? ⟨w4.heap.size, 0, none⟩ = some (.string ⟨x.n.toArray⟩))
                  (first | with_reducible exact HC50.out | with_reducible exact HC6.out)
                  (first | (go_at_call 38; (with_reducible refine HSE.out.mono ?_); rintro e w6 ⟨he, hb6⟩; obtain rfl := he; have HC6 := Lib.hid ((hb6.cell (p := ⟨w4.heap.size, 0, none⟩) HK5.out.lt).trans HC50.out); have HB6 := Lib.hid (HB5.out.trans (hb6.mono HB5.out.size)); have HO6 := Lib.hid (own_below HO5.out hb6); have HK6 := Lib.hid (HK5.out.below hb6 HK5.out.lt); clear hb6))
                obtain ⟨c60, c61⟩ := ent_cells HK6.out
                have HBA := Lib.hid (HB6.out.trans ((alloc_below w6 (.cells #[.string ⟨x.n.toArray⟩, .int .i64 (x.i : Int)] 23)).mono HB6.out.size))
                have HSA := Lib.hid HBA.out.size
                go_wp2_with (first
                  | (at_builtin; refine wpList_ent _ rfl (.tmp 48) (.tmp 50) rfl w.heap.size u4 (ents S) rfl (HO6.out.alloc _) (w6.heap.size + 1) (some ⟨w6.heap.size, 0, none⟩) 1 x rfl (rd_new2 _ _ 23 w6.heap.size rfl rfl) HEL.out HSA.out ?_; intro v7 w7 hown7 hg7; have HB7 := Lib.hid (HBA.out.grown hg7 HSA.out (fun k hk => (HO6.out.lt k hk).1)); have HO7 := Lib.hid (show w7.ownsRow w.heap.size 23 2 v7 (ents (S ++ [some x])).length (rowsG entC (ents (S ++ [some x]))) by (rw [HE.out]; exact hown7)); clear hown7 hg7))
                go_roundw
                case rel => exact ⟨S ++ [some x], j + 1, q + 16, by first | rfl | (congr 1), HQ2, hin, HP2.out, HO7.out, HB7.out⟩
                case measure => simp [intOf]; omega
        · have hq2 : q = n := by omega
          have hz := HP.out.all (by rw [HN.out, ← HQ.out]; omega) (by have := HL.out.1; have := HQ.out; omega)
          have HZ := Lib.hid (HR.out.trans (allE_some hz))
          clear hz
          go_wp2
          go_ret2
          exact ⟨_, by rw [HZ.out]; rfl, by rw [HZ.out]; exact HO.out, HB.out⟩
    · have h1 : ¬ 3840 < (n : Int) := by omega
      have h2 : ((n : Int) % 16 != 0) = true := by simp; omega
      have HZ := Lib.hid (hR.trans (allE_none (dirP_bad (by rw [hn]; exact fun h => h16 h.1))))
      clear hR hn hr hc hm h16
      go_enter Try.func18, Try.ntmps18
      go_wp2
      go_ret2
      exact handsE_nil HZ.out (Below.refl _ _)
  · have h1 : 3840 < (n : Int) := by omega
    have HZ := Lib.hid (hR.trans (allE_none (dirP_bad (by rw [hn]; exact fun h => h3840 h.2))))
    clear hR hn hr hc hm
    go_enter Try.func18, Try.ntmps18
    go_wp2
    go_ret2
    exact handsE_nil HZ.out (Below.refl _ _)
end Go.Proofs.Ytlopndnjkphdnaa.Entry
