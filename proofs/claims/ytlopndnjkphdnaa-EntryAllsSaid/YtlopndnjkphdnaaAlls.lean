/-
  EntryAlls: whatever the bytes (the first 5,000) and the name (of up to 1,000 bytes), a directory's entries, and the inode of the name, are the document's.
-/
import Derived.Test.YtlopndnjkphdnaaO
import Derived.Test.YtlopndnjkphdnaaEntryS
import Derived.BigQuiet
namespace Go.Proofs.Ytlopndnjkphdnaa
open Go.ChangeShapes Go.WideShapes Go.ChangeAt Go.RowKit Entry

set_option maxHeartbeats 1600000 in
theorem same_ents (E : List Ent) (A1 A2 : Option Addr) (n c1 c2 : Nat) (w : World) (hn : E.length = n) (h1 : Rd w w.heap.size A1 (rowsG entC E)) (h2 : Rd w w.heap.size A2 (rowsG entC E)) (hl : n ≤ 1000) :
    Calls Try.prog 22 #[.slice A1 n c1, .slice A2 n c2] w fun e w' => e = .returned (.bool true) ∧ Below w.heap.size w w' := by
  subst hn
  have H1 := Lib.hid h1
  have H2 := Lib.hid h2
  clear h1 h2
  by_cases hE : 0 < E.length
  · obtain ⟨b1, o1, rfl, -⟩ := rd_ents H1.out hE
    obtain ⟨b2, o2, rfl, -⟩ := rd_ents H2.out hE
    go_enter Try.func22, Try.ntmps22
    go_wp2
    go_loopw [5] (fun k wr => ∃ i : Nat, k = .int .i64 (i : Int) ∧ i ≤ E.length ∧ Rd wr w.heap.size (some ⟨b1, o1, none⟩) (rowsG entC E) ∧ Rd wr w.heap.size (some ⟨b2, o2, none⟩) (rowsG entC E) ∧ Below w.heap.size w wr) (fun k _ => E.length - (intOf k).toNat)
    case atStart => exact ⟨0, rfl, Nat.zero_le _, H1.out, H2.out, Below.refl _ _⟩
    case round =>
      obtain ⟨i, rfl, hi, hr1, hr2, hb⟩ := hrel
      have HR1 := Lib.hid hr1
      have HR2 := Lib.hid hr2
      have HB := Lib.hid hb
      clear hr1 hr2 hb
      by_cases hlt : i < E.length
      · have hlti : (i : Int) < (E.length : Int) := by omega
        have hi0 : (0 : Int) ≤ (i : Int) := by omega
        have hiw : IntKind.i64.wrap ((i : Int) + 1) = ((i + 1 : Nat) : Int) := by rw [IntKind.wrap_i64]; omega
        obtain ⟨x, hx⟩ : ∃ x, E[i]? = some x := ⟨_, List.getElem?_eq_getElem hlt⟩
        obtain ⟨d0, d1⟩ := rd_ent HR1.out hx
        obtain ⟨e0, e1⟩ := rd_ent HR2.out hx
        have hne : ∀ W, (binOp .neq 23 (.agg #[.string ⟨x.n.toArray⟩, .int .i64 (x.i : Int)]) (.agg #[.string ⟨x.n.toArray⟩, .int .i64 (x.i : Int)])).run Try.prog W = .ok (.bool false) W := fun W => by
          have := ent_neq W ⟨x.n.toArray⟩ ⟨x.n.toArray⟩ x.i x.i
          simpa using this
        have hg : ∀ (x y : Operand) (xs zs : Array Value) (op : BinOp) (W : World), (eqGuard op 23 x y (.agg xs) (.agg zs)).run Try.prog W = .ok () W := fun x y xs zs op W => guard_at23 W x y xs zs op
        clear hx
        go_wp2_with fail
        go_quiet (fail)
        go_wp2
        have HR7 := Lib.hid (show Rd (wr.drewN nq) w.heap.size (some ⟨b1, o1, none⟩) (rowsG entC E) from HR1.out)
        have HR8 := Lib.hid (show Rd (wr.drewN nq) w.heap.size (some ⟨b2, o2, none⟩) (rowsG entC E) from HR2.out)
        have HB7 := Lib.hid (below_drewN HB.out nq)
        go_roundw
        case rel => exact ⟨i + 1, by first | rfl | (congr 1), hlt, HR7.out, HR8.out, HB7.out⟩
        case measure => simp [intOf]; omega
      · obtain rfl : i = E.length := by omega
        go_wp2
        go_ret
        exact ⟨rfl, HB.out⟩
  · obtain rfl : E = [] := List.eq_nil_of_length_eq_zero (by omega)
    go_enter Try.func22, Try.ntmps22
    go_wp2
    go_loopw [5] (fun k wr => k = .int .i64 0 ∧ wr = w) (fun _ _ => 0)
    case atStart => exact ⟨rfl, rfl⟩
    case round =>
      obtain ⟨rfl, rfl⟩ := hrel
      go_wp2
      go_ret
      exact ⟨rfl, Below.refl _ _⟩

set_option maxHeartbeats 1600000 in
set_option maxRecDepth 100000 in
theorem alls_in (l : List UInt8) (A : Option Addr) (n c : Nat) (s : ByteArray) (w : World) (hn : l.length = n) (hc : n ≤ c) (hm : c ≤ maxLen) (hr : Rd w w.heap.size A (bytesV l)) (hs : s.size ≤ 1000) :
    Calls Try.prog 4 #[.slice A n c, .string s] w fun e w' => e = .returned (.bool true) ∧ Below w.heap.size w w' := by
  have hm5 : min n 5000 ≤ c := by omega
  have hl5 := length_few hn
  have H18 := Lib.hid (fun (W : World) (h : Rd W W.heap.size A (bytesV l)) => all_any (l.take 5000) A (min n 5000) c W hl5 (rd_few h) hm5 hm)
  have H19 := Lib.hid (fun (W : World) (h : Rd W W.heap.size A (bytesV l)) => rall_any (l.take 5000) A (min n 5000) c W hl5 (rd_few h) hm5 hm)
  have H20 := Lib.hid (fun (W : World) (h : Rd W W.heap.size A (bytesV l)) => find_any (l.take 5000) A (min n 5000) c s W hl5 (rd_few h) hm5 hm (by omega))
  have H21 := Lib.hid (fun (W : World) (h : Rd W W.heap.size A (bytesV l)) => rfind_any (l.take 5000) A (min n 5000) c s W hl5 (rd_few h) hm5 hm)
  have H14 : Hid (∀ W : World, Calls Try.prog 14 #[.slice A n c] W fun e w' => e = .returned (.slice A (min n 5000) c) ∧ W = w') := fun W => few_any A n c W hc hm
  have HLE := Lib.hid (length_all (l.take 5000))
  generalize allE hsh (l.take 5000) = ae at *
  obtain ⟨E, k⟩ := ae
  generalize findE hsh (l.take 5000) s.data.toList = fe at *
  obtain ⟨q, hq⟩ : ∃ q, E.length = q := ⟨_, rfl⟩
  have Hq := Lib.hid hq
  have HLQ : q ≤ 1000 := by have := HLE.out; simp only at this; omega
  have Hr := Lib.hid hr
  have hs1 : ¬ 1000 < (s.size : Int) := by omega
  generalize min n 5000 = p at *
  clear hn hc hm hr hm5 hl5 hq hs
  go_enter Try.func4, Try.ntmps4
  go_wp2_with (first
    | (go_at_call 10; (with_reducible refine (shown_any _).mono ?_); rintro e w1 ⟨he, hb1⟩; obtain rfl := he; have HB1 := Lib.hid hb1; clear hb1)
    | (go_at_call 14; (with_reducible refine (H14.out _).mono ?_); rintro e wf ⟨he, hwf⟩; obtain rfl := he; subst hwf)
    | (go_at_call 18; (with_reducible refine (H18.out _ ((Hr.out.below HB1.out).more HB1.out.size)).mono ?_); rintro e w2 ⟨v2, he, hown2, hb2⟩; obtain rfl := he; obtain ⟨A2, c2, hv2, -, -, hr2⟩ := own_rdk (by omega) hown2; simp only at hv2 hr2; rw [Hq.out] at hv2; subst hv2; have HR2 := Lib.hid hr2; have HB2 := Lib.hid (HB1.out.trans (hb2.mono HB1.out.size)); clear hown2 hb2 hr2; simp only)
    | (go_at_call 19; (with_reducible refine (H19.out _ ((Hr.out.below HB2.out).more HB2.out.size)).mono ?_); rintro e w3 ⟨v3, he, hown3, hb3⟩; obtain rfl := he; obtain ⟨A3, c3, hv3, -, -, hr3⟩ := own_rdk (by omega) hown3; simp only at hv3 hr3; rw [Hq.out] at hv3; subst hv3; have HR23 := Lib.hid ((HR2.out.below hb3).more hb3.size); have HR3 := Lib.hid hr3; have HB3 := Lib.hid (HB2.out.trans (hb3.mono HB2.out.size)); clear hown3 hb3 hr3; simp only)
    | (go_at_call 20; (with_reducible refine (H20.out _ ((Hr.out.below HB3.out).more HB3.out.size)).mono ?_); rintro e w4 ⟨he, hb4⟩; obtain rfl := he; have HR24 := Lib.hid ((HR23.out.below hb4).more hb4.size); have HR34 := Lib.hid ((HR3.out.below hb4).more hb4.size); have HB4 := Lib.hid (HB3.out.trans (hb4.mono HB3.out.size)); clear hb4)
    | (go_at_call 21; (with_reducible refine (H21.out _ ((Hr.out.below HB4.out).more HB4.out.size)).mono ?_); rintro e w5 ⟨he, hb5⟩; obtain rfl := he; have HR25 := Lib.hid ((HR24.out.below hb5).more hb5.size); have HR35 := Lib.hid ((HR34.out.below hb5).more hb5.size); have HB5 := Lib.hid (HB4.out.trans (hb5.mono HB4.out.size)); clear hb5)
    | (go_at_call 22; (with_reducible refine (same_ents E A2 A3 q c2 c3 _ Hq.out HR25.out HR35.out HLQ).mono ?_); rintro e w6 ⟨he, hb6⟩; obtain rfl := he; have HB6 := Lib.hid (HB5.out.trans (hb6.mono HB5.out.size)); clear hb6))
  go_ret
  exact ⟨rfl, HB6.out⟩
set_option maxHeartbeats 800000 in
theorem alls_walk (l : List UInt8) (A : Option Addr) (n c : Nat) (s : ByteArray) (w : World) (hn : l.length = n) (hc : n ≤ c) (hm : c ≤ maxLen) (hr : Rd w w.heap.size A (bytesV l)) :
    Calls Try.prog 4 #[.slice A n c, .string s] w fun e w' => e = .returned (.bool true) ∧ Below w.heap.size w w' := by
  by_cases h : s.size ≤ 1000
  · exact alls_in l A n c s w hn hc hm hr h
  · have hs1 : 1000 < (s.size : Int) := by omega
    clear hn hc hm hr h
    go_enter Try.func4, Try.ntmps4
    go_wp2_with (go_at_call 10; (with_reducible refine (shown_any _).mono ?_); rintro e w1 ⟨he, hb1⟩; obtain rfl := he; have HB1 := Lib.hid hb1; clear hb1)
    go_ret
    exact ⟨rfl, HB1.out⟩

theorem alls_contract (H : Type) (enc : TypeId × Value → H) (W : World) (base : Nat) (args : Array Value) (ds gs : List (DataW H)) (before : List MemPlace)
    (hval : ∀ (j : Nat) t v, Try.f4.params[j]? = some t → args[j]? = some v → Value.okWide Try.prog W .any base t v)
    (hW : DataW.Whole enc Try.prog Try.f4.params.toList Rows.entryAllsSpec.vars false W args.toList ds gs before) :
    Calls Try.prog 4 args W fun e W' => ∃ v, e = .returned v ∧ Rows.entryAllsSpec.post enc Try.prog Try.f4 false true false false W args v W' := by
  have hW' := hW
  have hlt : ∀ x ∈ before, x.block < W.heap.size := fun x hx => hW.lt x hx
  obtain ⟨p, q, hA0, hV, rfl, _, _⟩ := hW
  have hA : DataW.TrodAll enc Try.prog W 0 (fun _ => true) true Try.f4.params.toList args.toList ds p := hA0
  rw [Try.params4] at hA hval
  obtain ⟨v0, vs0, d0, ds0, p0, q0, hargs, rfl, rfl, h0, r0⟩ := trodAll_cons hA
  obtain ⟨v1, vs1, d1, ds1, p1, q1, rfl, rfl, rfl, h1, r1⟩ := trodAll_cons r0
  obtain ⟨rfl, rfl, rfl⟩ := trodAll_nil r1
  obtain rfl : args = #[v0, v1] := by cases args; simp_all
  obtain ⟨rfl, rfl⟩ := trodVars_none hV
  clear hA0
  obtain ⟨A0, n0, c0, l0, rfl, hn0, hc0, hm0, hr0⟩ := open_bytesL Try.underlying24 Try.underlying5 cells5 (hval 0 24 v0 rfl rfl) h0 (fun x hx => hlt x (by simp [hx]))
  unfold maxLen at hm0
  obtain ⟨s1, rfl, rfl, rfl, hs1⟩ := Go.ChangeMaps.open_string Try.underlying9 (hval 1 9 v1 rfl rfl) h1
  unfold maxLen at hs1
  refine (alls_walk l0 A0 n0 c0 s1 W hn0 hc0 (by unfold maxLen; omega) hr0).mono fun e W' ⟨he, hb⟩ => ?_
  subst he
  exact ⟨_, rfl, law_post laid (by kernel_rfl) Try.underlying4 (by rw [Try.params4]; decide +kernel) rfl hW' ⟨rfl, rfl, rfl⟩ hb⟩

set_option maxRecDepth 100000 in
theorem alls_lifted (os : Os) (started : os.Started) (H : Type) (enc : TypeId × Value → H) :
    ReturnsInHanded {} Try.checked os 4 .any (Rows.entryAllsSpec.pre6 enc Try.prog Try.f4 Rows.entryAllsRow.domain false) (Rows.entryAllsSpec.post enc Try.prog Try.f4 false true false false) := by
  refine returnsInHanded_of_change (C := Try.checked) own started (by kernel_rfl) Try.func4
    (ChangeSpec.witness6 (enc := enc) (C := Try.checked) false ⟨#[], #[.slice none 0 0, .string .empty], []⟩ 8 (by kernel_rfl) (by kernel_rfl) (by kernel_rfl) (by kernel_rfl)) ?_
  intro W base args ds gs before hval hW _ _
  exact alls_contract H enc W base args ds gs before hval hW

/-- EntryAlls is true for every input. -/
theorem alls_holds : Rows.EntryAllsSaid :=
  OpenClaim.holds_of_wide 4 Try.f4 rfl rfl rfl rfl rfl rfl rfl ⟨rfl, rfl, rfl, rfl, rfl⟩ rfl rfl rfl rfl rfl (by kernel_rfl) Try.func4 (by kernel_rfl)
    (of_decide_eq_true (by kernel_rfl)) (by unfold Func.isWrapper; first | (rw [if_pos (by decide +kernel)]; kernel_rfl) | (rw [if_neg (by decide +kernel)]; exact ⟨rfl, rfl⟩))
    (fun os started H enc _ => alls_lifted os started H enc)
end Go.Proofs.Ytlopndnjkphdnaa
