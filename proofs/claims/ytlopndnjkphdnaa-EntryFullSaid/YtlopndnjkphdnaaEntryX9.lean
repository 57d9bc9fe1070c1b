/-
  A directory's places: the document's Slots.
-/
import Derived.Test.YtlopndnjkphdnaaEntryX6
import Derived.Test.YtlopndnjkphdnaaEntryB
import Derived.Test.YtlopndnjkphdnaaEntryR
namespace Go.Proofs.Ytlopndnjkphdnaa.Entry
open Go.RowKit

/-- Places, and whether they are a directory's, in memory of their own. -/
def HandsS (w : World) (r : Option (List Slot)) (e : Ending) (w' : World) : Prop :=
  ∃ v, e = .returned (.tuple #[v, .bool r.isSome]) ∧ w'.ownsRow w.heap.size 69 3 v (r.getD []).length (rowsG slotC (r.getD [])) ∧ Below w.heap.size w w'
theorem handsS_none {w w' : World} {r : Option (List Slot)} (hr : r = none) (hb : Below w.heap.size w w') : HandsS w r (.returned (.tuple #[.slice none 0 0, .bool false])) w' := by
  subst hr
  exact ⟨_, rfl, World.ownsRow_nil _ _ _ _, hb⟩
theorem rd_slot {w : World} {B b o : Nat} {S : List Slot} (h : Rd w B (some ⟨b, o, none⟩) (rowsG slotC S)) {k : Nat} {t : Slot} (ht : S[k]? = some t) {j : Nat} {v : Value} (hj : (slotC t)[j]? = some v) : w.cell? ⟨b, o + k * 3 + j, none⟩ = some v := by
  have hj3 : j < 3 := by
    have := (List.getElem?_eq_some_iff.1 hj).1
    rwa [slotC_len] at this
  have hg := rowsG_get (f := slotC) slotC_len ht hj3
  rw [hj] at hg
  rcases h with h | ⟨b', o', h1, _, h3⟩
  · rw [h] at hg; simp at hg
  · injection h1 with h1
    injection h1 with h1 h2 _
    subst h1 h2
    rw [Nat.add_assoc]
    exact h3 _ v hg
theorem rd_slots {w : World} {B : Nat} {A : Option Addr} {S : List Slot} (h : Rd w B A (rowsG slotC S)) (hS : 0 < S.length) : ∃ b o, A = some ⟨b, o, none⟩ ∧ b < B := by
  refine rd_at h fun he => ?_
  have := length_rowsG (f := slotC) slotC_len S
  rw [he] at this
  simp at this
  omega
theorem own_rdkp {w : World} {base : Nat} {e : TypeId} {k : Nat} {A : Option Addr} {c n m : Nat} {xs : List Value} (hk : 0 < k) (h : w.ownsRow base e k (.slice A m c) n xs) : Rd w w.heap.size A xs := by
  obtain ⟨A', c', hv, _, _, hr⟩ := own_rdk hk h
  injection hv with h1
  subst h1
  exact hr
/-- The inode of a place. -/
def inS : Slot → Nat
  | some x => x.i
  | none => 0
theorem rd_new3 {w W : World} (a b c : Value) (e : TypeId) (g : Nat) (hg : g = W.heap.size) (hw : w = W.alloc (.cells #[a, b, c] e)) : Rd w (g + 1) (some ⟨g, 0, none⟩) [a, b, c] := by
  subst hg
  subst hw
  exact .inr ⟨W.heap.size, 0, rfl, Nat.lt_succ_self _, fun i v hv => by
    rw [Nat.zero_add, World.cell?_alloc_at _ _ _ _ rfl]
    simpa using hv⟩

set_option maxHeartbeats 1600000 in
set_option maxRecDepth 100000 in
theorem rslots_any (l : List UInt8) (A : Option Addr) (n c : Nat) (w : World) (hn : l.length = n) (hr : Rd w w.heap.size A (bytesV l)) (hc : n ≤ c) (hm : c ≤ maxLen) :
    Calls Try.prog 39 #[.slice A n c] w fun e w' => HandsS w (dirP hsh l) e w' := by
  obtain ⟨R, hR⟩ : ∃ R, R = dirP hsh l := ⟨_, rfl⟩
  rw [← hR]
  by_cases h16 : n % 16 = 0
  · have h2 : ((n : Int) % 16 != 0) = false := by simp; omega
    by_cases h3840 : n ≤ 3840
    · have h1 : ¬ 3840 < (n : Int) := by omega
      have HR := Lib.hid hR
      have HN := Lib.hid hn
      have Hr := Lib.hid hr
      have HCM := Lib.hid (And.intro hc hm)
      have HL := Lib.hid (And.intro h3840 h16)
      clear hR hn hr hc hm h16
      go_enter Try.func39, Try.ntmps39
      go_wp2
      go_loopw [4, 5] (fun v k wr => ∃ (S : List Slot) (j q : Nat), k = .int .i64 (q : Int) ∧ Hid (q = j * 16) ∧ q ≤ n ∧ Pre l S j ∧ wr.ownsRow w.heap.size 69 3 v S.length (rowsG slotC S) ∧ Below w.heap.size w wr) (fun _ k _ => n - (intOf k).toNat)
      case atStart => exact ⟨[], 0, 0, rfl, Lib.hid rfl, Nat.zero_le _, Pre.zero _, World.ownsRow_nil _ _ _ _, Below.refl _ _⟩
      case round =>
        obtain ⟨S, j, q, rfl, HQ, hq, hpre, hown, hb⟩ := hrel
        have HP := Lib.hid hpre
        have HO := Lib.hid hown
        have HB := Lib.hid hb
        clear hpre hown hb
        by_cases hlt : q < n
        · have hin : q + 16 ≤ n := by have := HQ.out; have := HL.out.2; omega
          have hlti : (q : Int) < (n : Int) := by omega
          have hq0 : (0 : Int) ≤ (q : Int) := by omega
          have hq1 : (q : Int) ≤ (q : Int) + 16 := by omega
          have hqc : (q : Int) + 16 ≤ (c : Int) := by have := HCM.out.1; omega
          have hw2 : IntKind.i64.wrap ((q : Int) + 16) = ((q + 16 : Nat) : Int) := by rw [IntKind.wrap_i64]; omega
          have HQ2 : Hid (q + 16 = (j + 1) * 16) := Lib.hid (by have := HQ.out; omega)
          have hls : ((l.drop q).take 16).length = 16 := by have := HN.out; rw [List.length_take, List.length_drop]; omega
          have HLS := Lib.hid hls
          have hcq : 16 ≤ c - q := by have := HCM.out.1; omega
          have HCQ := Lib.hid hcq
          obtain ⟨b, o, rfl, hbB⟩ := rd_at Hr.out (bytesV_ne HN.out (by omega))
          have e16 : q + 16 - q = 16 := by omega
          have hcne : ¬ c = q := by have := HCM.out.1; omega
          have HRP := Lib.hid (rd_part (Hr.out.below HB.out) q 16)
          obtain ⟨T, hT⟩ : ∃ T, takS hsh ((l.drop q).take 16) = T := ⟨_, rfl⟩
          have HT := Lib.hid hT
          have hT2 : takS hsh ((l.drop (j * 16)).take 16) = T := by rw [← HQ.out]; exact hT
          have HT2 := Lib.hid hT2
          have hjl : j * 16 + 16 ≤ l.length := by rw [HN.out, ← HQ.out]; exact hin
          have HJL := Lib.hid hjl
          clear hls hcq hT hT2 hjl
          cases T with
          | none =>
            have HZ := Lib.hid (HR.out.trans (HP.out.bad HJL.out (.inl HT2.out)))
            go_wp2_with (first
              | (go_at_call 15; (with_reducible refine (rtake_any ((l.drop q).take 16) _ 16 (c - q) _ HLS.out (HRP.out.more HB.out.size) HCQ.out).mono ?_); rintro e w4 ⟨he, hb4⟩; rw [HT.out] at he; obtain rfl := he; have HB4 := Lib.hid (HB.out.trans (hb4.mono HB.out.size)); have HO4 := Lib.hid (own_below HO.out hb4); clear hb4; simp only [slotV, entV]))
            go_ret2
            exact handsS_none HZ.out (HB4.out.trans ((alloc_below _ _).mono HB4.out.size))
          | some t =>
            have hsv : slotV (some t) = .tuple #[.agg #[.string ⟨(nmS t).toArray⟩, .int .i64 ((inS t : Nat) : Int)], .bool t.isSome, .int .i64 0] := by cases t <;> rfl
            have HSV := Lib.hid hsv
            have hbad : t.isSome = true → nmS t ∈ names S → R = none := fun h1 h2 => by
              cases t with
              | none => cases h1
              | some x => exact HR.out.trans (HP.out.bad HJL.out (.inr ⟨x, HT2.out, h2⟩))
            have hgood : (t.isSome = true → nmS t ∉ names S) → Pre l (S ++ [t]) (j + 1) := fun h => HP.out.step HT2.out (fun x hx hn => by subst hx; exact h rfl hn)
            have hrow : slotC t = [.string ⟨(nmS t).toArray⟩, .int .i64 ((inS t : Nat) : Int), .bool t.isSome] := by cases t <;> rfl
            have HBAD := Lib.hid hbad
            have HGOOD := Lib.hid hgood
            have HROW := Lib.hid hrow
            clear hsv hbad hgood hrow
            obtain ⟨on, hon⟩ : ∃ on, t.isSome = on := ⟨_, rfl⟩
            rw [hon] at HSV HBAD HGOOD HROW
            have HTT : Hid (takS hsh ((l.drop q).take 16) = some t) := HT
            generalize nmS t = nm at *
            generalize inS t = ii at *
            clear hon
            go_wp2_with (first
              | (go_at_call 15; (with_reducible refine (rtake_any ((l.drop q).take 16) _ 16 (c - q) _ HLS.out (HRP.out.more HB.out.size) HCQ.out).mono ?_); rintro e w4 ⟨he, hb4⟩; rw [HT.out] at he; obtain rfl := he; have HB4 := Lib.hid (HB.out.trans (hb4.mono HB.out.size)); have HO4 := Lib.hid (own_below HO.out hb4); clear hb4; rw [HSV.out]))
            have hbA := alloc_below w4 (.cells #[.string ⟨nm.toArray⟩, .int .i64 (ii : Int)] 23)
            have hk5 := Bk.new w4 23 [.string ⟨nm.toArray⟩, .int .i64 (ii : Int)]
            have HB5 := Lib.hid (HB4.out.trans (hbA.mono HB4.out.size))
            have HO5 := Lib.hid (HO4.out.alloc (.cells #[.string ⟨nm.toArray⟩, .int .i64 (ii : Int)] 23))
            have HK5 := Lib.hid (show Bk (w4.alloc (.cells #[.string ⟨nm.toArray⟩, .int .i64 (ii : Int)] 23)) w4.heap.size 23 [.string ⟨nm.toArray⟩, .int .i64 (ii : Int)] from hk5)
            have hg5 := HB4.out.size
            clear hbA hk5
            generalize w4.alloc (.cells #[.string ⟨nm.toArray⟩, .int .i64 (ii : Int)] 23) = V at *
            generalize w4.heap.size = g at *
            have hsl := Lib.hid (show S.length ≤ 1000 by have := HP.out.len; have := HQ.out; have := HL.out.1; omega)
            have HSL := hsl
            clear hsl
            cases on with
            | false =>
              obtain ⟨A4, c4, hv4, -, -, -⟩ := own_rdk (by omega) HO5.out
              subst hv4
              go_loopw [9] (fun k wr => ∃ i : Nat, k = .int .i64 (i : Int) ∧ i ≤ S.length ∧ i ≤ S.length ∧ wr.ownsRow w.heap.size 69 3 (.slice A4 S.length c4) S.length (rowsG slotC S) ∧ Bk wr g 23 [.string ⟨nm.toArray⟩, .int .i64 (ii : Int)] ∧ Below w.heap.size w wr) (fun k _ => S.length - (intOf k).toNat)
              case atStart => exact ⟨0, rfl, Nat.zero_le _, Nat.zero_le _, HO5.out, HK5.out, HB5.out⟩
              case round =>
                obtain ⟨i, rfl, hi, hidx, hown6, hk6, hb6⟩ := hrel
                have HO6 := Lib.hid hown6
                have HK6 := Lib.hid hk6
                have HB6 := Lib.hid hb6
                have HI := Lib.hid hidx
                clear hown6 hk6 hb6 hidx
                obtain ⟨c60, c61⟩ := ent_cells HK6.out
                by_cases hilt : i < S.length
                · have hili : (i : Int) < (S.length : Int) := by omega
                  have hii0 : (0 : Int) ≤ (i : Int) := by omega
                  have hiw : IntKind.i64.wrap ((i : Int) + 1) = ((i + 1 : Nat) : Int) := by rw [IntKind.wrap_i64]; have := HP.out.len; have := HQ.out; have := HL.out.1; omega
                  go_wp2_with fail
                  go_quiet (fail)
                  go_wp2
                  have HO7 := Lib.hid (show (wr.drewN nq).ownsRow w.heap.size 69 3 (.slice A4 S.length c4) S.length (rowsG slotC S) from HO6.out)
                  have HK7 := Lib.hid (show Bk (wr.drewN nq) g 23 [.string ⟨nm.toArray⟩, .int .i64 (ii : Int)] from HK6.out)
                  have HB7 := Lib.hid (below_drewN HB6.out nq)
                  go_roundw
                  case rel => exact ⟨i + 1, by first | rfl | (congr 1), hilt, hilt, HO7.out, HK7.out, HB7.out⟩
                  case measure => simp [intOf]; omega
                · have HPN := Lib.hid (HGOOD.out (fun h => by cases h))
                  have HBA := Lib.hid (HB6.out.trans ((alloc_below wr (.cells #[.string ⟨nm.toArray⟩, .int .i64 (ii : Int), .bool false] 69)).mono HB6.out.size))
                  have HSA := Lib.hid HBA.out.size
                  go_wp2_with (first
                    | (at_builtin; refine wpList_slot _ rfl (.tmp 62) (.tmp 66) rfl w.heap.size (.slice A4 S.length c4) S rfl (HO6.out.alloc _) (wr.heap.size + 1) (some ⟨wr.heap.size, 0, none⟩) 1 t rfl (by rw [HROW.out]; exact rd_new3 _ _ _ 69 wr.heap.size rfl rfl) HSL.out HSA.out ?_; intro v7 w7 hown7 hg7; have HB7 := Lib.hid (HBA.out.grown hg7 HSA.out (fun k hk => (HO6.out.lt k hk).1)); have HO7 := Lib.hid hown7; clear hown7 hg7))
                  go_roundw
                  case rel => exact ⟨S ++ [t], j + 1, q + 16, by first | rfl | (congr 1), HQ2, hin, HPN.out, HO7.out, HB7.out⟩
                  case measure => simp [intOf]; omega
            | true =>
              obtain ⟨A4, c4, hv4, -, -, hr4⟩ := own_rdk (by omega) HO5.out
              subst hv4
              by_cases hS0 : 0 < S.length
              · obtain ⟨b2, o2, rfl, hb2⟩ := rd_slots hr4 hS0
                clear hr4
                go_loopw [9] (fun k wr => ∃ i : Nat, k = .int .i64 (i : Int) ∧ i ≤ S.length ∧ i ≤ idxOf S nm ∧ wr.ownsRow w.heap.size 69 3 (.slice (some ⟨b2, o2, none⟩) S.length c4) S.length (rowsG slotC S) ∧ Bk wr g 23 [.string ⟨nm.toArray⟩, .int .i64 (ii : Int)] ∧ Below w.heap.size w wr) (fun k _ => S.length - (intOf k).toNat)
                case atStart => exact ⟨0, rfl, Nat.zero_le _, Nat.zero_le _, HO5.out, HK5.out, HB5.out⟩
                case round =>
                  obtain ⟨i, rfl, hi, hidx, hown6, hk6, hb6⟩ := hrel
                  have HO6 := Lib.hid hown6
                  have HK6 := Lib.hid hk6
                  have HB6 := Lib.hid hb6
                  have HI := Lib.hid hidx
                  clear hown6 hk6 hb6 hidx
                  obtain ⟨c60, c61⟩ := ent_cells HK6.out
                  by_cases hilt : i < S.length
                  · have hili : (i : Int) < (S.length : Int) := by omega
                    have hii0 : (0 : Int) ≤ (i : Int) := by omega
                    have hiw : IntKind.i64.wrap ((i : Int) + 1) = ((i + 1 : Nat) : Int) := by rw [IntKind.wrap_i64]; have := HP.out.len; have := HQ.out; have := HL.out.1; omega
                    obtain ⟨t2, ht2⟩ : ∃ t2, S[i]? = some t2 := ⟨_, List.getElem?_eq_getElem hilt⟩
                    have hr5 := own_rdkp (by omega) HO6.out
                    have HT2I := Lib.hid ht2
                    cases t2 with
                    | none =>
                      have d2 := rd_slot hr5 ht2 (j := 2) (v := .bool false) rfl
                      have HI2 := Lib.hid (idx_step HI.out HT2I.out (show isN nm none = false from rfl))
                      clear ht2 hr5
                      go_wp2_with fail
                      go_quiet (fail)
                      go_wp2
                      have HO7 := Lib.hid (show (wr.drewN nq).ownsRow w.heap.size 69 3 (.slice (some ⟨b2, o2, none⟩) S.length c4) S.length (rowsG slotC S) from HO6.out)
                      have HK7 := Lib.hid (show Bk (wr.drewN nq) g 23 [.string ⟨nm.toArray⟩, .int .i64 (ii : Int)] from HK6.out)
                      have HB7 := Lib.hid (below_drewN HB6.out nq)
                      go_roundw
                      case rel => exact ⟨i + 1, by first | rfl | (congr 1), hilt, HI2.out, HO7.out, HK7.out, HB7.out⟩
                      case measure => simp [intOf]; omega
                    | some y =>
                      have d2 := rd_slot hr5 ht2 (j := 2) (v := .bool true) rfl
                      have d0 := rd_slot hr5 ht2 (j := 0) (v := .string ⟨y.n.toArray⟩) rfl
                      rw [Nat.add_zero] at d0
                      cases hyn : (y.n == nm)
                      · have HI2 := Lib.hid (idx_step HI.out HT2I.out (show isN nm (some y) = false from hyn))
                        clear ht2 hr5
                        go_wp2_with fail
                        go_quiet (fail)
                        go_wp2
                        have HO7 := Lib.hid (show (wr.drewN nq).ownsRow w.heap.size 69 3 (.slice (some ⟨b2, o2, none⟩) S.length c4) S.length (rowsG slotC S) from HO6.out)
                        have HK7 := Lib.hid (show Bk (wr.drewN nq) g 23 [.string ⟨nm.toArray⟩, .int .i64 (ii : Int)] from HK6.out)
                        have HB7 := Lib.hid (below_drewN HB6.out nq)
                        go_roundw
                        case rel => exact ⟨i + 1, by first | rfl | (congr 1), hilt, HI2.out, HO7.out, HK7.out, HB7.out⟩
                        case measure => simp [intOf]; omega
                      · have HI2 := Lib.hid (idx_hit HI.out HT2I.out (show isN nm (some y) = true from hyn))
                        have HZ := Lib.hid (HBAD.out rfl (isN_mem.1 (by rw [HI2.out]; exact hilt)))
                        clear ht2 hr5
                        go_wp2_with fail
                        go_quiet (fail)
                        go_wp2
                        go_ret2
                        exact handsS_none HZ.out (below_drewN HB6.out nq)
                  · have HPN := Lib.hid (HGOOD.out (fun _ hm => by have h1 := isN_mem.2 hm; have h2 := HI.out; omega))
                    have HBA := Lib.hid (HB6.out.trans ((alloc_below wr (.cells #[.string ⟨nm.toArray⟩, .int .i64 (ii : Int), .bool true] 69)).mono HB6.out.size))
                    have HSA := Lib.hid HBA.out.size
                    go_wp2_with (first
                      | (at_builtin; refine wpList_slot _ rfl (.tmp 62) (.tmp 66) rfl w.heap.size (.slice (some ⟨b2, o2, none⟩) S.length c4) S rfl (HO6.out.alloc _) (wr.heap.size + 1) (some ⟨wr.heap.size, 0, none⟩) 1 t rfl (by rw [HROW.out]; exact rd_new3 _ _ _ 69 wr.heap.size rfl rfl) HSL.out HSA.out ?_; intro v7 w7 hown7 hg7; have HB7 := Lib.hid (HBA.out.grown hg7 HSA.out (fun k hk => (HO6.out.lt k hk).1)); have HO7 := Lib.hid hown7; clear hown7 hg7))
                    go_roundw
                    case rel => exact ⟨S ++ [t], j + 1, q + 16, by first | rfl | (congr 1), HQ2, hin, HPN.out, HO7.out, HB7.out⟩
                    case measure => simp [intOf]; omega

              · clear hr4
                go_loopw [9] (fun k wr => ∃ i : Nat, k = .int .i64 (i : Int) ∧ i ≤ S.length ∧ i ≤ idxOf S nm ∧ wr.ownsRow w.heap.size 69 3 (.slice A4 S.length c4) S.length (rowsG slotC S) ∧ Bk wr g 23 [.string ⟨nm.toArray⟩, .int .i64 (ii : Int)] ∧ Below w.heap.size w wr) (fun k _ => S.length - (intOf k).toNat)
                case atStart => exact ⟨0, rfl, Nat.zero_le _, Nat.zero_le _, HO5.out, HK5.out, HB5.out⟩
                case round =>
                  obtain ⟨i, rfl, hi, hidx, hown6, hk6, hb6⟩ := hrel
                  have HO6 := Lib.hid hown6
                  have HK6 := Lib.hid hk6
                  have HB6 := Lib.hid hb6
                  have HI := Lib.hid hidx
                  clear hown6 hk6 hb6 hidx
                  obtain ⟨c60, c61⟩ := ent_cells HK6.out
                  by_cases hilt : i < S.length
                  · have hili : (i : Int) < (S.length : Int) := by omega
                    have hii0 : (0 : Int) ≤ (i : Int) := by omega
                    have hiw : IntKind.i64.wrap ((i : Int) + 1) = ((i + 1 : Nat) : Int) := by rw [IntKind.wrap_i64]; have := HP.out.len; have := HQ.out; have := HL.out.1; omega
                    exact absurd hilt (by omega)
                  · have HPN := Lib.hid (HGOOD.out (fun _ hm => by have h1 := isN_mem.2 hm; omega))
                    have HBA := Lib.hid (HB6.out.trans ((alloc_below wr (.cells #[.string ⟨nm.toArray⟩, .int .i64 (ii : Int), .bool true] 69)).mono HB6.out.size))
                    have HSA := Lib.hid HBA.out.size
                    go_wp2_with (first
                      | (at_builtin; refine wpList_slot _ rfl (.tmp 62) (.tmp 66) rfl w.heap.size (.slice A4 S.length c4) S rfl (HO6.out.alloc _) (wr.heap.size + 1) (some ⟨wr.heap.size, 0, none⟩) 1 t rfl (by rw [HROW.out]; exact rd_new3 _ _ _ 69 wr.heap.size rfl rfl) HSL.out HSA.out ?_; intro v7 w7 hown7 hg7; have HB7 := Lib.hid (HBA.out.grown hg7 HSA.out (fun k hk => (HO6.out.lt k hk).1)); have HO7 := Lib.hid hown7; clear hown7 hg7))
                    go_roundw
                    case rel => exact ⟨S ++ [t], j + 1, q + 16, by first | rfl | (congr 1), HQ2, hin, HPN.out, HO7.out, HB7.out⟩
                    case measure => simp [intOf]; omega
        · have hq2 : q = n := by omega
          have hz := HP.out.all (by rw [HN.out, ← HQ.out]; omega) (by have := HL.out.1; have := HQ.out; omega)
          have HZ := Lib.hid (HR.out.trans hz)
          clear hz
          go_wp2
          go_ret2
          exact ⟨_, by rw [HZ.out]; rfl, by rw [HZ.out]; exact HO.out, HB.out⟩
    · have h1 : 3840 < (n : Int) := by omega
      have HZ := Lib.hid (hR.trans (dirP_bad (by rw [hn]; exact fun h => h3840 h.2)))
      clear hR hn hr hc hm
      go_enter Try.func39, Try.ntmps39
      go_wp2
      go_ret2
      exact handsS_none HZ.out (Below.refl _ _)
  · have h2 : ((n : Int) % 16 != 0) = true := by simp; omega
    have HZ := Lib.hid (hR.trans (dirP_bad (by rw [hn]; exact fun h => h16 h.1)))
    clear hR hn hr hc hm
    go_enter Try.func39, Try.ntmps39
    go_wp2
    go_ret2
    exact handsS_none HZ.out (Below.refl _ _)
end Go.Proofs.Ytlopndnjkphdnaa.Entry
