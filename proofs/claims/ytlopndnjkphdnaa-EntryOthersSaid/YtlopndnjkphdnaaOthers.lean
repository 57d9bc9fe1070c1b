/-
  EntryOthers: whatever the bytes (the first 5,000) and the entry (a name of up to 1,000 bytes), a name that is added, or removed, changes no other entry's bytes, nor where they stand.
-/
import Derived.Test.YtlopndnjkphdnaaO
import Derived.Test.YtlopndnjkphdnaaEntryS
import Derived.BigQuiet
namespace Go.Proofs.Ytlopndnjkphdnaa
open Go.ChangeShapes Go.WideShapes Go.ChangeAt Go.RowKit Entry

theorem add_cases {b n CA : List UInt8} {i : Int} {ka : Nat} (h : addE hsh b n i = (CA, ka)) :
    ka ≠ 0 ∨ ∃ S, dirP hsh b = some S ∧ nameB n = true ∧ 0 ≤ i ∧ i < 64 ∧ n ∉ names S ∧ (none ∈ S ∨ S.length < 240) ∧ CA = dirB hsh (Entry.put S ⟨n, i.toNat⟩) ∧ ka = 0 := by
  cases hP : dirP hsh b with
  | none =>
    rw [addE_dir hP] at h
    injection h with _ h
    exact .inl (by omega)
  | some S =>
    cases hN : nameB n
    · rw [addE_lay hP (layE_name (H := hsh) (i := i) hN) (by decide)] at h
      injection h with _ h
      exact .inl (by omega)
    · by_cases hi : 0 ≤ i ∧ i < 64
      · by_cases hf : idxOf S n < S.length
        · rw [addE_there hP hN hi hf] at h
          injection h with _ h
          exact .inl (by omega)
        · by_cases h240 : freeIdx S = 240
          · rw [addE_full hP hN hi hf h240] at h
            injection h with _ h
            exact .inl (by omega)
          · rw [addE_yes hP hN hi hf h240] at h
            injection h with h1 h2
            refine .inr ⟨S, rfl, rfl, hi.1, hi.2, fun hm => hf (isN_mem.2 hm), ?_, h1.symm, h2.symm⟩
            by_cases hm : none ∈ S
            · exact .inl hm
            · refine .inr ?_
              have h1 := free_le S
              have h2 : ¬ freeIdx S < S.length := fun h => hm (free_mem.1 h)
              have h3 := (length_dirP hP).2
              omega
      · rw [addE_lay hP (layE_ino (H := hsh) hN hi) (by decide)] at h
        injection h with _ h
        exact .inl (by omega)

/-- What Add leaves: places that are the same, but for one. -/
structure Put (S P : List Slot) (f m lc : Nat) : Prop where
  ok : SOks P
  len : (dirB hsh P).length = lc
  same : ∀ j t, j ≠ f → S[j]? = some t → P[j]? = some t
  diff : f < S.length → S[f]? = some none ∧ ∃ x, P[f]? = some (some x)
  size : (f < S.length ∧ lc = m) ∨ (f = S.length ∧ lc = m + 16)
theorem put_is {S : List Slot} {x : Ent} (h : SOks S) (hx : Ok x) : Put S (Entry.put S x) (freeIdx S) (S.length * 16) (if freeIdx S < S.length then S.length * 16 else S.length * 16 + 16) := by
  have hok := soks_put h hx
  by_cases hf : freeIdx S < S.length
  · rw [if_pos hf]
    have e := put_set x hf
    refine ⟨hok, by rw [length_dirB hok, e, List.length_set], fun j t hj ht => ?_, fun _ => ⟨?_, x, ?_⟩, .inl ⟨hf, rfl⟩⟩
    · rw [e, List.getElem?_set_ne (fun h => hj h.symm)]; exact ht
    · have h1 := List.findIdx_getElem (xs := S) (p := fun s : Slot => Option.isNone s) (w := hf)
      have h2 : S[freeIdx S]? = some (S[freeIdx S]'hf) := List.getElem?_eq_getElem hf
      rw [h2]
      have h3 : (S[freeIdx S]'hf).isNone = true := h1
      cases hs : S[freeIdx S]'hf with
      | none => rfl
      | some y => rw [hs] at h3; cases h3
    · rw [e, List.getElem?_set_self hf]
  · rw [if_neg hf]
    have hl := free_le S
    have e := put_end x hf
    refine ⟨hok, by rw [length_dirB hok, e, List.length_append, List.length_singleton]; omega, fun j t hj ht => ?_, fun h => absurd h hf, .inr ⟨by omega, rfl⟩⟩
    rw [e, List.getElem?_append_left (List.getElem?_eq_some_iff.1 ht).1]
    exact ht
def cntN (f j : Nat) : Nat := if f < j then 1 else 0
theorem cnt_step {f j : Nat} (h : j ≠ f) : cntN f (j + 1) = cntN f j := by
  unfold cntN
  split <;> split <;> omega
theorem slot_conv {w : World} {B b o c : Nat} {S : List Slot} (hS : SOks S) {j : Nat} {t : Slot} (ht : S[j]? = some t) (hr : Rd w B (some ⟨b, o, none⟩) (bytesV (dirB hsh S))) {q : Nat} (hq : q = j * 16) (n : Nat) (hn : n = 16) :
    (convert 24 9 (.slice (some ⟨b, o + q, none⟩) n c)).run Try.prog w = .ok (.string ⟨(slotB hsh t).toArray⟩) w := by
  subst hq hn
  have h := rd_part hr (j * 16) 16
  rw [dir_slot hS ht] at h
  exact str_of (length_slotB (hS t (List.mem_of_getElem? ht))) h

set_option maxHeartbeats 3200000 in
set_option maxRecDepth 100000 in
theorem others_put (s : ByteArray) (i : Int) (A : Option Addr) (n c m lc f : Nat) (S P : List Slot) (R : List UInt8) (w : World) (hS : SOks S) (hP : Put S P f m lc) (hm16 : m = S.length * 16) (h240 : S.length ≤ 240) (hc : m ≤ c) (hm : c ≤ maxLen) (hr : Rd w w.heap.size A (bytesV (dirB hsh S))) (hs : s.size ≤ 1000)
    (hR : R = (dirB hsh S).take R.length) (hRl : R.length ≤ m)
    (H14 : Hid (∀ W : World, Calls Try.prog 14 #[.slice A n c] W fun e w' => e = .returned (.slice A m c) ∧ W = w'))
    (H23 : Hid (∀ W : World, Rd W W.heap.size A (bytesV (dirB hsh S)) → Calls Try.prog 23 #[.slice A m c, .agg #[.string s, .int .i64 i]] W fun e w' => Hands W (dirB hsh P, 0) e w'))
    (H25 : Hid (∀ (A2 : Option Addr) (c2 : Nat) (W : World), Rd W W.heap.size A2 (bytesV (dirB hsh P)) → lc ≤ c2 → c2 ≤ maxLen → Calls Try.prog 25 #[.slice A2 lc c2, .string s] W fun e w' => Hands W (R, 0) e w')) :
    Calls Try.prog 9 #[.slice A n c, .agg #[.string s, .int .i64 i]] w fun e w' => e = .returned (.bool true) ∧ Below w.heap.size w w' := by
  have hs1 : ¬ 1000 < (s.size : Int) := by omega
  have Hr := Lib.hid hr
  have HP := Lib.hid hP
  have HL : Hid ((dirB hsh P, 0).1.length = lc) := Lib.hid hP.len
  have HM := Lib.hid hm16
  have HCM := Lib.hid (And.intro hc hm)
  have hsz : (lc = m) ∨ (lc = m + 16) := by rcases hP.size with h | h; exact .inl h.2; exact .inr h.2
  have hm38 : m ≤ 3840 := by omega
  have g1 : decide (lc < m) = false := decide_eq_false (by omega)
  have g3 : decide ((m : Int) + 16 < (lc : Int)) = false := decide_eq_false (by omega)
  have HSZ := Lib.hid hsz
  clear hr hP hm16 hc hm hs hsz
  go_enter Try.func9, Try.ntmps9
  go_wp2_with (first
    | (go_at_call 10; (with_reducible refine (shown_any _).mono ?_); rintro e w1 ⟨he, hb1⟩; obtain rfl := he; obtain ⟨hk1, hb1', hs1'⟩ := kept_ent hb1; obtain ⟨a0, a1⟩ := ent_cells hk1; have HK1 := Lib.hid hk1; have HB1 := Lib.hid hb1'; clear hb1 hb1' hk1)
    | (go_at_call 14; (with_reducible refine (H14.out _).mono ?_); rintro e wf ⟨he, hwf⟩; obtain rfl := he; subst hwf)
    | (go_at_call 23; (with_reducible refine (H23.out _ ((Hr.out.below HB1.out).more HB1.out.size)).mono ?_); rintro e w2 hh; obtain ⟨A2, c2, he, hc2, hm2, hr2, hb2⟩ := hh.got HL.out; obtain rfl := he; have HK2 := Lib.hid (HK1.out.below hb2 HK1.out.lt); have HB2 := Lib.hid (HB1.out.trans (hb2.mono HB1.out.size)); have HR2 := Lib.hid (show Rd w2 w2.heap.size A2 (bytesV (dirB hsh P)) from hr2); have HC2 := Lib.hid (And.intro hc2 hm2); clear hh hb2 hr2 hc2 hm2 a0 a1))
  go_loopw [9, 10] (fun nv av wr => ∃ j q : Nat, nv = .int .i64 ((cntN f j : Nat) : Int) ∧ av = .int .i64 (q : Int) ∧ Hid (q = j * 16) ∧ j ≤ S.length ∧ Rd wr w2.heap.size A2 (bytesV (dirB hsh P)) ∧ Rd wr w.heap.size A (bytesV (dirB hsh S)) ∧ Bk wr w.heap.size 23 [.string s, .int .i64 i] ∧ Below w.heap.size w wr ∧ w2.heap.size ≤ wr.heap.size) (fun _ av _ => m - (intOf av).toNat)
  case atStart => exact ⟨0, 0, by unfold cntN; simp, rfl, Lib.hid rfl, Nat.zero_le _, HR2.out, Hr.out.below HB2.out, HK2.out, HB2.out, Nat.le_refl _⟩
  case round =>
    obtain ⟨j, q, rfl, rfl, HQ, hj, hr2, hr1, hk, hb, hsz2⟩ := hrel
    have HR2' := Lib.hid hr2
    have HR1' := Lib.hid hr1
    have HK' := Lib.hid hk
    have HB' := Lib.hid hb
    have HS2 := Lib.hid hsz2
    clear hr2 hr1 hk hb hsz2
    by_cases hlt : j < S.length
    · have hqm : q + 16 ≤ m := by have := HQ.out; have := HM.out; omega
      have hq1 : (q : Int) + 16 ≤ (m : Int) := by omega
      have hqw : IntKind.i64.wrap ((q : Int) + 16) = (q : Int) + 16 := by rw [IntKind.wrap_i64]; omega
      have hq0 : (0 : Int) ≤ (q : Int) := by omega
      have hq2 : (q : Int) ≤ (q : Int) + 16 := by omega
      have hq3 : (q : Int) + 16 ≤ (c : Int) := by have := HCM.out.1; omega
      have hlc : lc = m ∨ lc = m + 16 := HSZ.out
      have hq4 : (q : Int) + 16 ≤ (c2 : Int) := by have := HC2.out.1; omega
      have hcn1 : ¬ c = q := by have := HCM.out.1; omega
      have hcn2 : ¬ c2 = q := by have := HC2.out.1; omega
      have e16 : q + 16 - q = 16 := by omega
      have HQ2 : Hid (q + 16 = (j + 1) * 16) := Lib.hid (by have := HQ.out; omega)
      obtain ⟨t, ht⟩ : ∃ t, S[j]? = some t := ⟨_, List.getElem?_eq_getElem hlt⟩
      have hSl := length_dirB (H := hsh) hS
      obtain ⟨b1, o1, rfl, hbB1⟩ := rd_at Hr.out (bytesV_ne hSl (by omega))
      obtain ⟨b2, o2, rfl, hbB2⟩ := rd_at HR2.out (bytesV_ne HP.out.len (by omega))
      have hk1 := fun k => slot_conv (c := c - q) hS ht (HR1'.out.drewN k) HQ.out 16 rfl
      clear hlc hSl
      by_cases hjf : j = f
      · subst hjf
        obtain ⟨hd1, x, hd2⟩ := HP.out.diff hlt
        rw [hd1] at ht
        obtain rfl : none = t := by injection ht
        have hk2 := fun k => slot_conv (c := c2 - q) HP.out.ok hd2 (HR2'.out.drewN k) HQ.out 16 rfl
        have hx := HP.out.ok _ (List.mem_of_getElem? hd2) x rfl
        have hne : ((⟨(slotB hsh (some x)).toArray⟩ : ByteArray).toList == (⟨(slotB hsh none).toArray⟩ : ByteArray).toList) = false := by
          rw [str_eq]
          have := ent_ne (H := hsh) hx
          simpa [slotB] using this
        have hne2 : ¬ slotB hsh (some x) = slotB hsh none := ent_ne (H := hsh) hx
        have hne3 : (slotB hsh (some x) == slotB hsh none) = false := by simpa using hne2
        have hne4 : (slotB hsh none == slotB hsh (some x)) = false := by simpa using fun h => hne2 h.symm
        have hc0 : cntN j j = 0 := by unfold cntN; simp
        have hc1 : cntN j (j + 1) = 1 := by unfold cntN; simp
        have HC1 := Lib.hid hc1
        rw [hc0]
        clear ht hd1 hd2 hx hc0 hc1
        generalize slotB hsh (some x) = sx at *
        generalize slotB hsh none = s0 at *
        go_wp2_with fail
        go_quiet (fail)
        go_wp2
        go_roundw
        case rel => exact ⟨j + 1, q + 16, by rw [HC1.out]; rfl, by first | rfl | (congr 1), HQ2, hlt, HR2'.out, HR1'.out, HK'.out, below_drewN HB'.out nq, HS2.out⟩
        case measure => simp [intOf]; omega
      · have hd2 := HP.out.same j t hjf ht
        have hk2 := fun k => slot_conv (c := c2 - q) HP.out.ok hd2 (HR2'.out.drewN k) HQ.out 16 rfl
        have HC1 := Lib.hid (cnt_step hjf)
        clear ht hd2
        generalize slotB hsh t = sx at *
        go_wp2_with fail
        go_quiet (fail)
        go_wp2
        go_roundw
        case rel => exact ⟨j + 1, q + 16, by rw [HC1.out], by first | rfl | (congr 1), HQ2, hlt, HR2'.out, HR1'.out, HK'.out, below_drewN HB'.out nq, HS2.out⟩
        case measure => simp [intOf]; omega
    · obtain rfl : j = S.length := by omega
      obtain rfl : q = m := by have := HQ.out; have := HM.out; omega
      have HRd := Lib.hid (show R = (dirB hsh S).take R.length from hR)
      have hkc := HK'.out
      obtain ⟨b0, b1⟩ := ent_cells hkc
      clear hkc hR
      obtain ⟨r, hr⟩ : ∃ r, R.length = r := ⟨_, rfl⟩
      have hrm : r ≤ q := by omega
      have HRL : Hid ((R, 0).1.length = r) := Lib.hid hr
      go_wp2_with (go_at_call 25; (with_reducible refine (H25.out _ _ _ (HR2'.out.more HS2.out) HC2.out.1 HC2.out.2).mono ?_); rintro e w5 hh; obtain ⟨A5, c5, he, -, -, hr5, hb5⟩ := hh.got HRL.out; obtain rfl := he; have HB5 := Lib.hid (HB'.out.trans (hb5.mono HB'.out.size)); have HR5 := Lib.hid (show Rd w5 w5.heap.size A5 (bytesV R) from hr5); clear hh hb5 hr5 b0 b1)
      have HD := Lib.hid (below_drew HB5.out)
      have e1 : ∀ k, (convert 24 9 (.slice A5 r c5)).run Try.prog (w5.drewN k) = .ok (.string ⟨R.toArray⟩) (w5.drewN k) := fun k => str_of HRL.out (HR5.out.drewN k)
      have e2 : ∀ k, (convert 24 9 (.slice A r c)).run Try.prog (w5.drewN k) = .ok (.string ⟨R.toArray⟩) (w5.drewN k) := fun k => str_of HRL.out (by
        have h := ((Hr.out.below HB5.out).take r).drewN k
        rw [← bytesV_take, ← (show R.length = r from HRL.out), ← HRd.out] at h
        exact h)
      have q1 : (r : Int) ≤ (c : Int) := by have := HCM.out.1; omega
      have q0 : (0 : Int) ≤ (r : Int) := by omega
      have q2 : ¬ (q : Int) < (r : Int) := by omega
      have q3 : decide (q < r) = false := decide_eq_false (by omega)
      rcases HP.out.size with ⟨hf1, hf2⟩ | ⟨hf1, hf2⟩
      · have hcn : cntN f S.length = 1 := by unfold cntN; rw [if_pos hf1]
        rw [hcn]
        obtain rfl := hf2
        clear hcn hf1
        go_quiet (fail)
        go_wp2
        go_ret
        exact ⟨rfl, below_drewN HB5.out _⟩
      · have hcn : cntN f S.length = 0 := by unfold cntN; rw [if_neg (by omega)]
        rw [hcn]
        obtain rfl := hf2
        have q4 : IntKind.i64.wrap ((q : Int) + 16) = (q : Int) + 16 := by rw [IntKind.wrap_i64]; omega
        clear hcn hf1
        go_quiet (fail)
        go_wp2
        go_ret
        exact ⟨rfl, below_drewN HB5.out _⟩
set_option maxHeartbeats 1600000 in
theorem others_not (s : ByteArray) (i : Int) (fl CA : List UInt8) (A : Option Addr) (n c m ka : Nat) (w : World) (hr : Rd w w.heap.size A (bytesV fl)) (hs1 : ¬ 1000 < (s.size : Int)) (hk : ka ≠ 0)
    (H14 : Hid (∀ W : World, Calls Try.prog 14 #[.slice A n c] W fun e w' => e = .returned (.slice A m c) ∧ W = w'))
    (H23 : Hid (∀ W : World, Rd W W.heap.size A (bytesV fl) → Calls Try.prog 23 #[.slice A m c, .agg #[.string s, .int .i64 i]] W fun e w' => Hands W (CA, ka) e w')) :
    Calls Try.prog 9 #[.slice A n c, .agg #[.string s, .int .i64 i]] w fun e w' => e = .returned (.bool true) ∧ Below w.heap.size w w' := by
  have Hr := Lib.hid hr
  have hk0 : ((ka : Int) == 0) = false := by simpa using hk
  have hk1 : ¬ ka = 0 := hk
  clear hr hk
  go_enter Try.func9, Try.ntmps9
  go_wp2_with (first
    | (go_at_call 10; (with_reducible refine (shown_any _).mono ?_); rintro e w1 ⟨he, hb1⟩; obtain rfl := he; obtain ⟨hk1, hb1', hs1'⟩ := kept_ent hb1; obtain ⟨a0, a1⟩ := ent_cells hk1; have HB1 := Lib.hid hb1'; clear hb1 hb1' hk1)
    | (go_at_call 14; (with_reducible refine (H14.out _).mono ?_); rintro e wf ⟨he, hwf⟩; obtain rfl := he; subst hwf)
    | (go_at_call 23; (with_reducible refine (H23.out _ ((Hr.out.below HB1.out).more HB1.out.size)).mono ?_); rintro e w2 ⟨v2, he, -, hb2⟩; obtain rfl := he; have HB2 := Lib.hid (HB1.out.trans (hb2.mono HB1.out.size)); clear hb2; simp only))
  go_ret
  exact ⟨rfl, HB2.out⟩
theorem others_walk (l : List UInt8) (A : Option Addr) (n c : Nat) (s : ByteArray) (i : Int) (w : World) (hn : l.length = n) (hc : n ≤ c) (hm : c ≤ maxLen) (hr : Rd w w.heap.size A (bytesV l)) :
    Calls Try.prog 9 #[.slice A n c, .agg #[.string s, .int .i64 i]] w fun e w' => e = .returned (.bool true) ∧ Below w.heap.size w w' := by
  by_cases hs : s.size ≤ 1000
  · have hm5 : min n 5000 ≤ c := by omega
    have hl5 := length_few hn
    have hr5 := rd_few hr
    have H14 : Hid (∀ W : World, Calls Try.prog 14 #[.slice A n c] W fun e w' => e = .returned (.slice A (min n 5000) c) ∧ W = w') := Lib.hid fun W => few_any A n c W hc hm
    generalize l.take 5000 = fl at *
    generalize min n 5000 = m at *
    have H23 : ∀ W : World, Rd W W.heap.size A (bytesV fl) → Calls Try.prog 23 #[.slice A m c, .agg #[.string s, .int .i64 i]] W fun e w' => Hands W (addE hsh fl s.data.toList i) e w' := fun W h => add_any fl A m c s i W hl5 h hm5 hm (by omega)
    cases hE : addE hsh fl s.data.toList i with
    | mk CA ka =>
      rw [hE] at H23
      rcases add_cases hE with hk | ⟨S, hP, hN, hi0, hi1, hnm, hroom, rfl, rfl⟩
      · exact others_not s i fl CA A n c m ka w hr5 (by omega) hk H14 H23
      · obtain ⟨hd, rfl⟩ := dirP_iff.1 hP
        have hls := length_dirP hP
        have hx : Ok ⟨s.data.toList, i.toNat⟩ := ⟨hN, show i.toNat < 64 by omega⟩
        have hput := put_is hd.ok hx
        have hdp := dir_put hd hx hnm hroom
        rw [← show m = S.length * 16 from hl5.symm.trans hls.1] at hput
        obtain ⟨t, ht⟩ := dirB_cutEnd (H := hsh) S
        have hRl : (dirB hsh (cutEnd S)).length ≤ m := by
          have := congrArg List.length ht
          rw [List.length_append] at this
          omega
        refine others_put s i A n c m _ _ S _ (dirB hsh (cutEnd S)) w hd.ok hput (hl5.symm.trans hls.1) hls.2 hm5 hm hr5 hs ?_ hRl H14 H23 (Lib.hid fun A2 c2 W h2 h3 h4 => ?_)
        · rw [ht, List.take_left]
        · have h := remove_any _ A2 _ c2 s W hput.len h2 h3 h4 (by omega)
          have e : remE hsh (dirB hsh (Entry.put S ⟨s.data.toList, i.toNat⟩)) s.data.toList = (dirB hsh (cutEnd S), 0) := by
            rw [rem_dir hdp (mem_names.2 ⟨_, mem_put.2 (.inl rfl), rfl⟩)]
            have := del_put (l := S) (x := ⟨s.data.toList, i.toNat⟩) hnm
            rw [this]
          rw [e] at h
          exact h
  · have hs1 : 1000 < (s.size : Int) := by omega
    clear hn hc hm hr hs
    go_enter Try.func9, Try.ntmps9
    go_wp2_with (go_at_call 10; (with_reducible refine (shown_any _).mono ?_); rintro e w1 ⟨he, hb1⟩; obtain rfl := he; obtain ⟨hk1, hb1', hs1'⟩ := kept_ent hb1; obtain ⟨a0, a1⟩ := ent_cells hk1; have HB1 := Lib.hid hb1'; clear hb1 hb1')
    go_ret
    exact ⟨rfl, HB1.out⟩

theorem others_contract (H : Type) (enc : TypeId × Value → H) (W : World) (base : Nat) (args : Array Value) (ds gs : List (DataW H)) (before : List MemPlace)
    (hval : ∀ (j : Nat) t v, Try.f9.params[j]? = some t → args[j]? = some v → Value.okWide Try.prog W .any base t v)
    (hW : DataW.Whole enc Try.prog Try.f9.params.toList Rows.entryOthersSpec.vars false W args.toList ds gs before) :
    Calls Try.prog 9 args W fun e W' => ∃ v, e = .returned v ∧ Rows.entryOthersSpec.post enc Try.prog Try.f9 false true false false W args v W' := by
  have hW' := hW
  have hlt : ∀ x ∈ before, x.block < W.heap.size := fun x hx => hW.lt x hx
  obtain ⟨p, q, hA0, hV, rfl, _, _⟩ := hW
  have hA : DataW.TrodAll enc Try.prog W 0 (fun _ => true) true Try.f9.params.toList args.toList ds p := hA0
  rw [Try.params9] at hA hval
  obtain ⟨v0, vs0, d0, ds0, p0, q0, hargs, rfl, rfl, h0, r0⟩ := trodAll_cons hA
  obtain ⟨v1, vs1, d1, ds1, p1, q1, rfl, rfl, rfl, h1, r1⟩ := trodAll_cons r0
  obtain ⟨rfl, rfl, rfl⟩ := trodAll_nil r1
  obtain rfl : args = #[v0, v1] := by cases args; simp_all
  obtain ⟨rfl, rfl⟩ := trodVars_none hV
  clear hA0
  obtain ⟨A0, n0, c0, l0, rfl, hn0, hc0, hm0, hr0⟩ := open_bytesL Try.underlying24 Try.underlying5 cells5 (hval 0 24 v0 rfl rfl) h0 (fun x hx => hlt x (by simp [hx]))
  unfold maxLen at hm0
  obtain ⟨s1, i1, rfl, hs1, hj1, hk1⟩ := open_ent (hval 1 23 v1 rfl rfl) h1
  unfold maxLen at hs1
  refine (others_walk l0 A0 n0 c0 s1 i1 W hn0 hc0 (by unfold maxLen; omega) hr0).mono fun e W' ⟨he, hb⟩ => ?_
  subst he
  exact ⟨_, rfl, law_post laid (by kernel_rfl) Try.underlying4 (by rw [Try.params9]; decide +kernel) rfl hW' ⟨rfl, rfl, rfl⟩ hb⟩

set_option maxRecDepth 100000 in
theorem others_lifted (os : Os) (started : os.Started) (H : Type) (enc : TypeId × Value → H) :
    ReturnsInHanded {} Try.checked os 9 .any (Rows.entryOthersSpec.pre6 enc Try.prog Try.f9 Rows.entryOthersRow.domain false) (Rows.entryOthersSpec.post enc Try.prog Try.f9 false true false false) := by
  refine returnsInHanded_of_change (C := Try.checked) own started (by kernel_rfl) Try.func9
    (ChangeSpec.witness6 (enc := enc) (C := Try.checked) false ⟨#[], #[.slice none 0 0, .agg #[.string .empty, .int .i64 0]], []⟩ 8 (by kernel_rfl) (by kernel_rfl) (by kernel_rfl) (by kernel_rfl)) ?_
  intro W base args ds gs before hval hW _ _
  exact others_contract H enc W base args ds gs before hval hW

/-- EntryOthers is true for every input. -/
theorem others_holds : Rows.EntryOthersSaid :=
  OpenClaim.holds_of_wide 9 Try.f9 rfl rfl rfl rfl rfl rfl rfl ⟨rfl, rfl, rfl, rfl, rfl⟩ rfl rfl rfl rfl rfl (by kernel_rfl) Try.func9 (by kernel_rfl)
    (of_decide_eq_true (by kernel_rfl)) (by unfold Func.isWrapper; first | (rw [if_pos (by decide +kernel)]; kernel_rfl) | (rw [if_neg (by decide +kernel)]; exact ⟨rfl, rfl⟩))
    (fun os started H enc _ => others_lifted os started H enc)
end Go.Proofs.Ytlopndnjkphdnaa
