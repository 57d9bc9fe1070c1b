/-
  A directory's entries and a name's inode: package entry's Find, the document's All and Find.
-/
import Derived.Test.YtlopndnjkphdnaaEntryX8
import Derived.Test.YtlopndnjkphdnaaEntryX9
namespace Go.Proofs.Ytlopndnjkphdnaa.Entry
open Go.RowKit

/-- An inode, and whether there is one. -/
def HandsF (w : World) (r : Option Nat) (e : Ending) (w' : World) : Prop := e = .returned (.tuple #[.int .i64 ((r.getD 0 : Nat) : Int), .bool r.isSome]) ∧ Below w.heap.size w w'
theorem findE_none {b n : List UInt8} (h : dirP hsh b = none) : findE hsh b n = none := by unfold findE; rw [h]
theorem findE_some {b n : List UInt8} {S : List Slot} (h : dirP hsh b = some S) : findE hsh b n = fnd S n := by unfold findE; rw [h]
theorem idx_fnd_none {S : List Slot} {n : List UInt8} (h : ¬ idxOf S n < S.length) : fnd S n = none := fnd_none fun hm => h (isN_mem.2 hm)
theorem idx_fnd_some {S : List Slot} {n : List UInt8} (hS : (names S).Nodup) (h : idxOf S n < S.length) : ∃ x, S[idxOf S n]? = some (some x) ∧ x.n = n ∧ fnd S n = some x.i := by
  have h1 := List.findIdx_getElem (xs := S) (p := isN n) (w := h)
  have h2 : S[idxOf S n]? = some (S[idxOf S n]'h) := List.getElem?_eq_getElem h
  have h3 : isN n (S[idxOf S n]'h) = true := h1
  cases ht : S[idxOf S n]'h with
  | none => rw [ht] at h3; cases h3
  | some x =>
    rw [ht] at h2 h3
    have hn : x.n = n := by simpa [isN] using h3
    exact ⟨x, h2, hn, by have h4 := fnd_of hS (List.mem_of_getElem? h2); rw [hn] at h4; exact h4⟩
theorem ents_take {S : List Slot} {i : Nat} {t : Slot} (h : S[i]? = some t) : ents (S.take (i + 1)) = ents (S.take i) ++ ents [t] := by
  obtain ⟨hi, rfl⟩ := List.getElem?_eq_some_iff.1 h
  rw [List.take_succ_eq_append_getElem hi, ents_append]

set_option maxHeartbeats 1600000 in
set_option maxRecDepth 100000 in
theorem rall_any (l : List UInt8) (A : Option Addr) (n c : Nat) (w : World) (hn : l.length = n) (hr : Rd w w.heap.size A (bytesV l)) (hc : n ≤ c) (hm : c ≤ maxLen) :
    Calls Try.prog 19 #[.slice A n c] w fun e w' => HandsE w (allE hsh l) e w' := by
  cases hP : dirP hsh l with
  | none =>
    have HS := Lib.hid (rslots_any l A n c w hn hr hc hm)
    rw [hP] at HS
    have HZ := Lib.hid (allE_none hP)
    clear hn hr hP hc hm
    go_enter Try.func19, Try.ntmps19
    go_wp2_with (go_at_call 39; (with_reducible refine HS.out.mono ?_); rintro e w1 ⟨v, he, hown, hb⟩; obtain rfl := he; simp only [Option.isSome])
    go_ret2
    exact handsE_nil HZ.out hb
  | some S =>
    have HS := Lib.hid (rslots_any l A n c w hn hr hc hm)
    rw [hP] at HS
    have HZ := Lib.hid (allE_some hP)
    have HL := Lib.hid (length_dirP hP).2
    clear hn hr hP hc hm
    go_enter Try.func19, Try.ntmps19
    go_wp2_with (go_at_call 39; (with_reducible refine HS.out.mono ?_); rintro e w1 ⟨v, he, hown, hb⟩; obtain rfl := he; simp only [Option.isSome, Option.getD] at hown ⊢; obtain ⟨A1, c1, hv, -, -, hr1⟩ := own_rdk (by omega) hown; subst hv; have HR1 := Lib.hid hr1; have HB1 := Lib.hid hb; clear hown hr1 hb)
    by_cases hS0 : 0 < S.length
    · obtain ⟨b2, o2, rfl, hb2⟩ := rd_slots HR1.out hS0
      go_loopw [6, 7] (fun v k wr => ∃ i : Nat, k = .int .i64 (i : Int) ∧ i ≤ S.length ∧ wr.ownsRow w1.heap.size 23 2 v (ents (S.take i)).length (rowsG entC (ents (S.take i))) ∧ Below w1.heap.size w1 wr) (fun _ k _ => S.length - (intOf k).toNat)
      case atStart => exact ⟨0, rfl, Nat.zero_le _, by rw [List.take_zero]; exact World.ownsRow_nil _ _ _ _, Below.refl _ _⟩
      case round =>
        obtain ⟨i, rfl, hi, hown, hbel⟩ := hrel
        have HO := Lib.hid hown
        have HB := Lib.hid hbel
        clear hown hbel
        by_cases hlt : i < S.length
        · have hlti : (i : Int) < (S.length : Int) := by omega
          have hi0 : (0 : Int) ≤ (i : Int) := by omega
          have hiw : IntKind.i64.wrap ((i : Int) + 1) = ((i + 1 : Nat) : Int) := by rw [IntKind.wrap_i64]; have := HL.out; omega
          obtain ⟨t, ht⟩ : ∃ t, S[i]? = some t := ⟨_, List.getElem?_eq_getElem hlt⟩
          have hr2 := HR1.out.below HB.out
          have HE := Lib.hid (ents_take ht)
          cases t with
          | none =>
            have d2 := rd_slot hr2 ht (j := 2) (v := .bool false) rfl
            have HO2 := Lib.hid (show wr.ownsRow w1.heap.size 23 2 _ (ents (S.take (i + 1))).length (rowsG entC (ents (S.take (i + 1)))) by rw [HE.out]; simp only [ents, List.filterMap_cons, id, List.filterMap_nil, List.append_nil]; exact HO.out)
            clear ht hr2
            go_wp2
            go_roundw
            case rel => exact ⟨i + 1, by first | rfl | (congr 1), hlt, HO2.out, HB.out⟩
            case measure => simp [intOf]; omega
          | some x =>
            have d2 := rd_slot hr2 ht (j := 2) (v := .bool true) rfl
            have d0 := rd_slot hr2 ht (j := 0) (v := .string ⟨x.n.toArray⟩) rfl
            have d1 := rd_slot hr2 ht (j := 1) (v := .int .i64 (x.i : Int)) rfl
            rw [Nat.add_zero] at d0
            have hel : (ents (S.take i)).length ≤ 1000 := by
              have h1 : (ents (S.take i)).length ≤ (S.take i).length := List.length_filterMap_le _ _
              have h2 := List.length_take_le i S
              have := HL.out
              have h3 : (S.take i).length ≤ S.length := by rw [List.length_take]; omega
              omega
            have HEL := Lib.hid hel
            have HBA := Lib.hid (HB.out.trans ((alloc_below wr (.cells #[.string ⟨x.n.toArray⟩, .int .i64 (x.i : Int)] 23)).mono HB.out.size))
            have HSA := Lib.hid HBA.out.size
            clear ht hr2 hel
            go_wp2_with (first
              | (at_builtin; refine wpList_ent _ rfl (.tmp 26) (.tmp 32) rfl w1.heap.size _ (ents (S.take i)) rfl (HO.out.alloc _) (wr.heap.size + 1) (some ⟨wr.heap.size, 0, none⟩) 1 x rfl (rd_new2 _ _ 23 wr.heap.size rfl rfl) HEL.out HSA.out ?_; intro v7 w7 hown7 hg7; have HB7 := Lib.hid (HBA.out.grown hg7 HSA.out (fun k hk => (HO.out.lt k hk).1)); have HO7 := Lib.hid (show w7.ownsRow w1.heap.size 23 2 v7 (ents (S.take (i + 1))).length (rowsG entC (ents (S.take (i + 1)))) by (rw [HE.out]; exact hown7)); clear hown7 hg7))
            go_roundw
            case rel => exact ⟨i + 1, by first | rfl | (congr 1), hlt, HO7.out, HB7.out⟩
            case measure => simp [intOf]; omega
        · obtain rfl : i = S.length := by omega
          rw [List.take_length] at HO
          have HW := Lib.hid (HB1.out.trans (HB.out.mono HB1.out.size))
          go_wp2
          go_ret2
          exact ⟨_, by rw [HZ.out]; rfl, by rw [HZ.out]; exact own_mono HO.out HB1.out.size, HW.out⟩
    · obtain rfl : S = [] := List.eq_nil_of_length_eq_zero (by omega)
      go_loopw [6, 7] (fun v k wr => v = .slice none 0 0 ∧ k = .int .i64 0 ∧ wr = w1) (fun _ _ _ => 0)
      case atStart => exact ⟨rfl, rfl, rfl⟩
      case round =>
        obtain ⟨rfl, rfl, rfl⟩ := hrel
        go_wp2
        go_ret2
        exact handsE_nil HZ.out HB1.out

/-- No entry of that name among the first ones. -/
def Less (E : List Ent) (n : List UInt8) (i : Nat) : Prop := ∀ (k : Nat) y, k < i → E[k]? = some y → (y.n == n) = false
theorem Less.zero (E : List Ent) (n : List UInt8) : Less E n 0 := fun _ _ h => absurd h (Nat.not_lt_zero _)
theorem Less.succ {E : List Ent} {n : List UInt8} {i : Nat} {x : Ent} (h : Less E n i) (hx : E[i]? = some x) (hn : (x.n == n) = false) : Less E n (i + 1) := fun k y hk hy => by
  by_cases e : k = i
  · subst e; rw [hx] at hy; cases hy; exact hn
  · exact h k y (by omega) hy
theorem less_all {E : List Ent} {n : List UInt8} (h : Less E n E.length) : E.find? (fun x => x.n == n) = none := by
  rw [List.find?_eq_none]
  intro x hx
  obtain ⟨k, hk⟩ := List.mem_iff_getElem?.1 hx
  rw [h k x (List.getElem?_eq_some_iff.1 hk).1 hk]
  decide
theorem less_hit {E : List Ent} {n : List UInt8} {i : Nat} {x : Ent} (h : Less E n i) (hx : E[i]? = some x) (hn : (x.n == n) = true) : E.find? (fun x => x.n == n) = some x := by
  obtain ⟨hi, hxe⟩ := List.getElem?_eq_some_iff.1 hx
  rw [← List.take_append_drop i E, List.find?_append, List.find?_eq_none.2, Option.none_or]
  · rw [List.drop_eq_getElem_cons hi, hxe]
    exact List.find?_cons_of_pos (p := fun x : Ent => x.n == n) hn
  · intro y hy
    obtain ⟨k, hk⟩ := List.mem_iff_getElem?.1 hy
    have hki : k < i := by
      have := (List.getElem?_eq_some_iff.1 hk).1
      rw [List.length_take] at this
      omega
    rw [List.getElem?_take_of_lt hki] at hk
    rw [h k y hki hk]
    decide
theorem find_all (b n : List UInt8) : findE hsh b n = ((allE hsh b).1.find? fun x => x.n == n).map (·.i) := by
  cases hP : dirP hsh b with
  | none => rw [findE_none hP, allE_none hP]; rfl
  | some S => rw [findE_some hP, allE_some hP]; rfl
theorem rd_ent {w : World} {B b o : Nat} {E : List Ent} (h : Rd w B (some ⟨b, o, none⟩) (rowsG entC E)) {k : Nat} {x : Ent} (hx : E[k]? = some x) : w.cell? ⟨b, o + k * 2, none⟩ = some (.string ⟨x.n.toArray⟩) ∧ w.cell? ⟨b, o + k * 2 + 1, none⟩ = some (.int .i64 (x.i : Int)) := by
  have h0 := rowsG_get (f := entC) entC_len hx (j := 0) (by omega)
  have h1 := rowsG_get (f := entC) entC_len hx (j := 1) (by omega)
  rcases h with h | ⟨b', o', h3, _, h4⟩
  · rw [h] at h0; simp [entC] at h0
  · injection h3 with h3
    injection h3 with h5 h6 _
    subst h5 h6
    refine ⟨h4 _ _ (by rw [Nat.add_zero] at h0; rw [h0]; rfl), ?_⟩
    rw [Nat.add_assoc]
    exact h4 _ _ (by rw [h1]; rfl)
theorem rd_ents {w : World} {B : Nat} {A : Option Addr} {E : List Ent} (h : Rd w B A (rowsG entC E)) (hE : 0 < E.length) : ∃ b o, A = some ⟨b, o, none⟩ ∧ b < B := by
  refine rd_at h fun he => ?_
  have := length_rowsG (f := entC) entC_len E
  rw [he] at this
  simp at this
  omega
theorem length_all (b : List UInt8) : (allE hsh b).1.length ≤ 240 := by
  cases hP : dirP hsh b with
  | none => rw [allE_none hP]; simp
  | some S =>
    rw [allE_some hP]
    have := (length_dirP hP).2
    have h1 : (ents S).length ≤ S.length := List.length_filterMap_le _ _
    show (ents S).length ≤ 240
    omega
set_option maxHeartbeats 1600000 in
theorem rfind_any (l : List UInt8) (A : Option Addr) (n c : Nat) (s : ByteArray) (w : World) (hn : l.length = n) (hr : Rd w w.heap.size A (bytesV l)) (hc : n ≤ c) (hm : c ≤ maxLen) :
    Calls Try.prog 21 #[.slice A n c, .string s] w fun e w' => HandsF w (findE hsh l s.data.toList) e w' := by
  have HA := Lib.hid (rall_any l A n c w hn hr hc hm)
  have hF := find_all l s.data.toList
  have HL := Lib.hid (length_all l)
  obtain ⟨R, hR⟩ : ∃ R, R = findE hsh l s.data.toList := ⟨_, rfl⟩
  rw [← hR] at hF ⊢
  generalize hAe : allE hsh l = ae at *
  obtain ⟨E, k⟩ := ae
  have HF := Lib.hid (show R = (E.find? fun x => x.n == s.data.toList).map (·.i) from hF)
  clear hn hr hc hm hF hR hAe
  have HL : Hid (E.length ≤ 240) := HL
  go_enter Try.func21, Try.ntmps21
  go_wp2_with (go_at_call 19; (with_reducible refine HA.out.mono ?_); rintro e w1 ⟨v, he, hown, hb⟩; obtain rfl := he; obtain ⟨A1, c1, hv, -, -, hr1⟩ := own_rdk (by omega) hown; subst hv; have HR1 := Lib.hid (show Rd w1 w1.heap.size A1 (rowsG entC E) from hr1); have HB1 := Lib.hid hb; clear hown hr1 hb; simp only)
  by_cases hE0 : 0 < E.length
  · obtain ⟨b2, o2, rfl, hb2⟩ := rd_ents HR1.out hE0
    go_loopw [8] (fun k wr => ∃ i : Nat, k = .int .i64 (i : Int) ∧ i ≤ E.length ∧ Less E s.data.toList i ∧ wr = w1) (fun k _ => E.length - (intOf k).toNat)
    case atStart => exact ⟨0, rfl, Nat.zero_le _, Less.zero _ _, rfl⟩
    case round =>
      obtain ⟨i, rfl, hi, hless, hwr⟩ := hrel
      subst hwr
      have HS := Lib.hid hless
      clear hless
      by_cases hlt : i < E.length
      · have hlti : (i : Int) < (E.length : Int) := by omega
        have hi0 : (0 : Int) ≤ (i : Int) := by omega
        have hiw : IntKind.i64.wrap ((i : Int) + 1) = ((i + 1 : Nat) : Int) := by rw [IntKind.wrap_i64]; have := HL.out; omega
        obtain ⟨x, hx⟩ : ∃ x, E[i]? = some x := ⟨_, List.getElem?_eq_getElem hlt⟩
        obtain ⟨d0, d1⟩ := rd_ent HR1.out hx
        cases hxn : (x.n == s.data.toList)
        · have hxn2 : (x.n == s.toList) = false := by rw [ByteArray.toList_eq]; exact hxn
          have HS2 := Lib.hid (HS.out.succ hx hxn)
          clear hx hxn
          go_wp2
          go_roundw
          case rel => exact ⟨i + 1, by first | rfl | (congr 1), hlt, HS2.out, trivial⟩
          case measure => simp [intOf]; omega
        · have hxn2 : (x.n == s.toList) = true := by rw [ByteArray.toList_eq]; exact hxn
          have HZ := Lib.hid (HF.out.trans (by rw [less_hit HS.out hx hxn]; rfl : _ = some x.i))
          clear hx hxn
          go_wp2
          go_ret2
          exact ⟨by rw [HZ.out]; rfl, HB1.out⟩
      · obtain rfl : i = E.length := by omega
        have HZ := Lib.hid (HF.out.trans (by rw [less_all HS.out]; rfl : _ = none))
        go_wp2
        go_ret2
        exact ⟨by rw [HZ.out]; rfl, HB1.out⟩
  · obtain rfl : E = [] := List.eq_nil_of_length_eq_zero (by omega)
    have HZ := Lib.hid (HF.out.trans (rfl : _ = none))
    go_loopw [8] (fun k wr => k = .int .i64 0 ∧ wr = w1) (fun _ _ => 0)
    case atStart => exact ⟨rfl, rfl⟩
    case round =>
      obtain ⟨rfl, rfl⟩ := hrel
      go_wp2
      go_ret2
      exact ⟨by rw [HZ.out]; rfl, HB1.out⟩

/-- Behind a call that may have failed: the number of an error. -/
theorem ino_slot {S : List Slot} (hS : SOks S) {j : Nat} {x : Ent} (ht : S[j]? = some (some x)) : (dirB hsh S).getD (j * 16 + 2) 0 = UInt8.ofNat x.i := by
  rw [← getD_part (by omega), dir_slot hS ht]
  show (entB hsh x).getD 2 0 = _
  rw [entB_eq]
  rfl
set_option maxHeartbeats 1600000 in
theorem find_any (l : List UInt8) (A : Option Addr) (n c : Nat) (s : ByteArray) (w : World) (hn : l.length = n) (hr : Rd w w.heap.size A (bytesV l)) (hc : n ≤ c) (hm : c ≤ maxLen) (hs : s.size ≤ 1000000) :
    Calls Try.prog 20 #[.slice A n c, .string s] w fun e w' => HandsF w (findE hsh l s.data.toList) e w' := by
  have HA := Lib.hid (all_any l A n c w hn hr hc hm)
  cases hP : dirP hsh l with
  | none =>
    rw [allE_none hP] at HA
    rw [findE_none hP]
    clear hn hr hc hm hP
    go_enter Try.func20, Try.ntmps20
    go_wp2_with (go_at_call 18; (with_reducible refine HA.out.mono ?_); rintro e w1 ⟨v, he, hown, hb⟩; obtain rfl := he; have HB1 := Lib.hid hb; clear hown hb; simp only)
    go_ret2
    exact ⟨rfl, HB1.out⟩
  | some S =>
    obtain ⟨hd, hde⟩ := dirP_iff.1 hP
    have hls := length_dirP hP
    rw [hn] at hls
    rw [allE_some hP] at HA
    rw [findE_some hP]
    have hSE := fun (w' : World) (hr' : Rd w' w'.heap.size A (bytesV l)) => search_any S hd.ok A n c s w' hls.1 (by rw [hde]; exact hr') hc hm hs (by omega)
    have HSE := Lib.hid hSE
    have Hr := Lib.hid hr
    by_cases hidx : idxOf S s.data.toList < S.length
    · obtain ⟨x, hx, hxn, hfx⟩ := idx_fnd_some hd.once hidx
      have hok := hd.ok _ (List.mem_of_getElem? hx) x rfl
      have hi := ino_slot hd.ok hx
      rw [hde] at hi
      obtain ⟨q, hq⟩ : ∃ q, idxOf S s.data.toList * 16 = q := ⟨_, rfl⟩
      rw [hq] at HSE hi
      obtain ⟨b, o, rfl, hbB⟩ := rd_at hr (bytesV_ne hn (by omega))
      have hcell := rd_get hr (q + 2) (by omega)
      rw [hi] at hcell
      have hxi : (((UInt8.ofNat x.i).toNat : Nat) : Int) = (x.i : Int) := by have := hok.ino; simp; omega
      rw [hxi] at hcell
      have hne : ((q : Int) == (n : Int)) = false := by simp; omega
      have hq2 : IntKind.i64.wrap ((q : Int) + 2) = ((q + 2 : Nat) : Int) := by rw [IntKind.wrap_i64]; omega
      have hqn : ((q + 2 : Nat) : Int) < (n : Int) := by omega
      have hq0 : (0 : Int) ≤ (q : Int) := by omega
      have HC := Lib.hid hcell
      have hx64 : (x.i : Int) < 64 := by have := hok.ino; omega
      have hxw : IntKind.i64.wrap (x.i : Int) = (x.i : Int) := by rw [IntKind.wrap_i64]; omega
      rw [hfx]
      clear hn hr hP hd hde hls hx hxn hfx hok hi hcell hxi hq hidx
      go_enter Try.func20, Try.ntmps20
      go_wp2_with (first
        | (go_at_call 18; (with_reducible refine HA.out.mono ?_); rintro e w1 ⟨v, he, hown, hb⟩; obtain rfl := he; have HB1 := Lib.hid hb; clear hown hb; simp only)
        | (go_at_call 38; (with_reducible refine (HSE.out _ ((Hr.out.below HB1.out).more HB1.out.size)).mono ?_); rintro e w2 ⟨he, hb2⟩; obtain rfl := he; have hc2 := ((HB1.out.trans (hb2.mono HB1.out.size)).cell (p := ⟨b, o + (q + 2), none⟩) hbB).trans HC.out; have HB2 := Lib.hid (HB1.out.trans (hb2.mono HB1.out.size)); clear hb2))
      go_ret2
      exact ⟨rfl, HB2.out⟩
    · have hie : idxOf S s.data.toList = S.length := by have := idx_le S s.data.toList; omega
      rw [hie, ← hls.1] at HSE
      rw [idx_fnd_none hidx]
      clear hn hr hP hd hde hls hidx hie
      go_enter Try.func20, Try.ntmps20
      go_wp2_with (first
        | (go_at_call 18; (with_reducible refine HA.out.mono ?_); rintro e w1 ⟨v, he, hown, hb⟩; obtain rfl := he; have HB1 := Lib.hid hb; clear hown hb; simp only)
        | (go_at_call 38; (with_reducible refine (HSE.out _ ((Hr.out.below HB1.out).more HB1.out.size)).mono ?_); rintro e w2 ⟨he, hb2⟩; obtain rfl := he; have HB2 := Lib.hid (HB1.out.trans (hb2.mono HB1.out.size)); clear hb2))
      go_ret2
      exact ⟨rfl, HB2.out⟩
end Go.Proofs.Ytlopndnjkphdnaa.Entry
