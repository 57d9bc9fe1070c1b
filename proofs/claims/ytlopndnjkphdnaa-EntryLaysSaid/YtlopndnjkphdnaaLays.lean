/-
  EntryLays: whatever the entry (a name of up to 1,000 bytes), and whatever the bytes (the first 5,000), whether its name is valid, its bytes, and the entry that bytes stand for, are the document's.
-/
import Derived.Test.YtlopndnjkphdnaaO
import Derived.Test.YtlopndnjkphdnaaEntryS
namespace Go.Proofs.Ytlopndnjkphdnaa
open Go.ChangeShapes Go.WideShapes Go.ChangeAt Go.RowKit Entry

theorem slotV_shape (r : Option Slot) : ∃ (s : ByteArray) (i : Int) (on : Bool) (k : Int), slotV r = .tuple #[.agg #[.string s, .int .i64 i], .bool on, .int .i64 k] := by
  match r with
  | none => exact ⟨_, _, _, _, rfl⟩
  | some none => exact ⟨_, _, _, _, rfl⟩
  | some (some x) => exact ⟨_, _, _, _, rfl⟩
/-- Three boxed entries and two slices of bytes as texts, in each later world. -/
theorem lim {w w2 u : World} {g0 g1 g2 : Nat} {s0 s1 s2 : ByteArray} {i0 i1 i2 : Int} {A1 A2 : Option Addr} {d1 d2 B1 B2 n1 n2 : Nat} {b1 b2 : List UInt8} (k0 : Bk w2 g0 23 [.string s0, .int .i64 i0]) (k1 : Bk w2 g1 23 [.string s1, .int .i64 i1]) (k2 : Bk w2 g2 23 [.string s2, .int .i64 i2])
    (h1 : Rd w2 B1 A1 (bytesV b1)) (h2 : Rd w2 B2 A2 (bytesV b2)) (hb1 : B1 ≤ w2.heap.size) (hb2 : B2 ≤ w2.heap.size) (e1 : b1.length = n1) (e2 : b2.length = n2) (hw : Below w.heap.size w w2) (hb : Below w2.heap.size w2 u) :
    u.cell? ⟨g0, 0, none⟩ = some (.string s0) ∧ u.cell? ⟨g0, 1, none⟩ = some (.int .i64 i0) ∧ u.cell? ⟨g1, 0, none⟩ = some (.string s1) ∧ u.cell? ⟨g1, 1, none⟩ = some (.int .i64 i1) ∧ u.cell? ⟨g2, 0, none⟩ = some (.string s2) ∧ u.cell? ⟨g2, 1, none⟩ = some (.int .i64 i2) ∧
    (convert 24 9 (.slice A1 n1 d1)).run Try.prog u = .ok (.string ⟨b1.toArray⟩) u ∧ (convert 24 9 (.slice A2 n2 d2)).run Try.prog u = .ok (.string ⟨b2.toArray⟩) u ∧ Below w.heap.size w u := by
  have k0' := k0.below hb k0.lt
  have k1' := k1.below hb k1.lt
  have k2' := k2.below hb k2.lt
  exact ⟨k0'.cell 0, k0'.cell 1, k1'.cell 0, k1'.cell 1, k2'.cell 0, k2'.cell 1, str_of e1 ((h1.more hb1).below hb), str_of e2 ((h2.more hb2).below hb), hw.trans (hb.mono hw.size)⟩

set_option maxHeartbeats 3200000 in
set_option maxRecDepth 100000 in
theorem lays_in (s : ByteArray) (i : Int) (l : List UInt8) (A : Option Addr) (n c : Nat) (w : World) (hn : l.length = n) (hc : n ≤ c) (hm : c ≤ maxLen) (hr : Rd w w.heap.size A (bytesV l)) (hs : s.size ≤ 1000) :
    Calls Try.prog 3 #[.agg #[.string s, .int .i64 i], .slice A n c] w fun e w' => e = .returned (.bool true) ∧ Below w.heap.size w w' := by
  obtain ⟨ys, yi, on, er, hT⟩ := slotV_shape (takS hsh (l.take 5000))
  have hm5 : min n 5000 ≤ c := by omega
  have H13 : Hid (∀ W : World, Rd W W.heap.size A (bytesV l) → Calls Try.prog 13 #[.slice A (min n 5000) c] W fun e w' => e = .returned (.tuple #[.agg #[.string ys, .int .i64 yi], .bool on, .int .i64 er]) ∧ Below W.heap.size W w') := fun W h => by
    have := take_any (l.take 5000) A (min n 5000) c W (length_few hn) (rd_few h) hm5
    unfold HandsT at this
    rwa [hT] at this
  have H15 : Hid (∀ W : World, Rd W W.heap.size A (bytesV l) → Calls Try.prog 15 #[.slice A (min n 5000) c] W fun e w' => e = .returned (.tuple #[.agg #[.string ys, .int .i64 yi], .bool on, .int .i64 er]) ∧ Below W.heap.size W w') := fun W h => by
    have := rtake_any (l.take 5000) A (min n 5000) c W (length_few hn) (rd_few h) hm5
    unfold HandsT at this
    rwa [hT] at this
  have H14 : Hid (∀ W : World, Calls Try.prog 14 #[.slice A n c] W fun e w' => e = .returned (.slice A (min n 5000) c) ∧ W = w') := fun W => few_any A n c W hc hm
  have HL := Lib.hid (fun W => lay_any s i W)
  have HM := Lib.hid (fun W => rlay_any s i W)
  have HR := Lib.hid (fun W => right_any s W)
  have HS := Lib.hid (fun W => rright_any s W)
  generalize layE hsh s.data.toList i = le at *
  obtain ⟨bs, k⟩ := le
  generalize nameB s.data.toList = rb at *
  obtain ⟨q, hq⟩ : ∃ q, bs.length = q := ⟨_, rfl⟩
  have Hq : Hid ((bs, k).1.length = q) := Lib.hid hq
  have heq : ∀ W, (binOp .eql 23 (.agg #[.string ys, .int .i64 yi]) (.agg #[.string ys, .int .i64 yi])).run Try.prog W = .ok (.bool true) W := fun W => by
    have := ent_eql W ys ys yi yi
    simpa using this
  have hg : ∀ (x y : Operand) (xs zs : Array Value) (op : BinOp) (W : World), (eqGuard op 23 x y (.agg xs) (.agg zs)).run Try.prog W = .ok () W := fun x y xs zs op W => guard_at23 W x y xs zs op
  have Hr := Lib.hid hr
  have hs1 : ¬ 1000 < (s.size : Int) := by omega
  generalize min n 5000 = p at *
  clear hT hn hc hm hr hm5 hq hs
  go_enter Try.func3, Try.ntmps3
  go_wp2_with (first
    | (go_at_call 10; (with_reducible refine (shown_any _).mono ?_); rintro e w1 ⟨he, hb1⟩; obtain rfl := he; obtain ⟨hk1, hb1', hs1'⟩ := kept_ent hb1; obtain ⟨a0, a1⟩ := ent_cells hk1; have HK1 := Lib.hid hk1; have HB1 := Lib.hid hb1'; clear hb1 hb1' hk1)
    | (go_at_call 11; (with_reducible refine (HL.out _).mono ?_); rintro e w2 hh; obtain ⟨A2, d2, he, -, -, hr2, hb2⟩ := hh.got Hq.out; obtain rfl := he; have hk2 := HK1.out.below hb2 HK1.out.lt; obtain ⟨b0, b1⟩ := ent_cells hk2; have HK2 := Lib.hid hk2; have HB2 := Lib.hid (HB1.out.trans (hb2.mono HB1.out.size)); have HR2 := Lib.hid hr2; clear hh hb2 hr2 hk2 a0 a1)
    | (go_at_call 12; (with_reducible refine (HM.out _).mono ?_); rintro e w3 hh; obtain ⟨A3, d3, he, -, -, hr3, hb3⟩ := hh.got Hq.out; obtain rfl := he; have HK3 := Lib.hid (HK2.out.below hb3 HK2.out.lt); have HB3 := Lib.hid (HB2.out.trans (hb3.mono HB2.out.size)); have HR23 := Lib.hid ((HR2.out.below hb3).more hb3.size); have HR3 := Lib.hid hr3; clear hh hb3 hr3 b0 b1)
    | (go_at_call 14; (with_reducible refine (H14.out _).mono ?_); rintro e wf ⟨he, hwf⟩; obtain rfl := he; subst hwf)
    | (go_at_call 13; (with_reducible refine (H13.out _ ((Hr.out.below HB3.out).more HB3.out.size)).mono ?_); rintro e w4 ⟨he, hb4⟩; obtain rfl := he; have ha4 := alloc_below w4 (.cells #[.string ys, .int .i64 yi] 23); have hB4 := hb4.trans (ha4.mono hb4.size); have HB4 := Lib.hid (HB3.out.trans (hB4.mono HB3.out.size)); have HK4 := Lib.hid (HK3.out.below hB4 HK3.out.lt); have HR24 := Lib.hid ((HR23.out.below hB4).more hB4.size); have HR34 := Lib.hid ((HR3.out.below hB4).more hB4.size); clear hb4 ha4 hB4)
    | (go_at_call 15; (with_reducible refine (H15.out _ ((Hr.out.below HB4.out).more HB4.out.size)).mono ?_); rintro e w5 ⟨he, hb5⟩; obtain rfl := he; obtain ⟨hj5, -, -⟩ := kept_ent hb5; have ha5 := alloc_below w5 (.cells #[.string ys, .int .i64 yi] 23); have hB5 := hb5.trans (ha5.mono hb5.size); have HB5 := Lib.hid (HB4.out.trans (hB5.mono HB4.out.size)); have HK5 := Lib.hid (HK4.out.below hB5 HK4.out.lt); have HR25 := Lib.hid ((HR24.out.below hB5).more hB5.size); have HR35 := Lib.hid ((HR34.out.below hB5).more hB5.size); have HJ5 := Lib.hid (hj5.below ha5 hj5.lt); have HI5 := Lib.hid (show Bk (w5.alloc (.cells #[.string ys, .int .i64 yi] 23)) w5.heap.size 23 [.string ys, .int .i64 yi] from Bk.new w5 23 _); clear hb5 ha5 hB5 hj5))
  generalize w5.alloc (.cells #[.string ys, .int .i64 yi] 23) = W at *
  have hlt1 := HJ5.out.lt
  have hlt2 := HI5.out.lt
  have HD := Lib.hid (below_drew (Below.refl W.heap.size W))
  go_region_held3 (fun u => u.cell? ⟨w.heap.size, 0, none⟩ = some (.string s) ∧ u.cell? ⟨w.heap.size, 1, none⟩ = some (.int .i64 i) ∧ u.cell? ⟨w4.heap.size, 0, none⟩ = some (.string ys) ∧ u.cell? ⟨w4.heap.size, 1, none⟩ = some (.int .i64 yi) ∧ u.cell? ⟨w5.heap.size, 0, none⟩ = some (.string ys) ∧ u.cell? ⟨w5.heap.size, 1, none⟩ = some (.int .i64 yi) ∧
      (convert 24 9 (.slice A2 q d2)).run Try.prog u = .ok (.string ⟨bs.toArray⟩) u ∧ (convert 24 9 (.slice A3 q d3)).run Try.prog u = .ok (.string ⟨bs.toArray⟩) u ∧ Below w.heap.size w u)
    (first | exact lim HK5.out HJ5.out HI5.out HR25.out HR35.out (Nat.le_refl _) (Nat.le_refl _) Hq.out Hq.out HB5.out HD.out | exact lim HK5.out HJ5.out HI5.out HR25.out HR35.out (Nat.le_refl _) (Nat.le_refl _) Hq.out Hq.out HB5.out HD6.out)
    (first
      | (go_at_call 16; refine (HR.out _).mono ?_; rintro e w6 ⟨he, hb6⟩; obtain rfl := he; have HD6 := Lib.hid (HD.out.trans (hb6.mono HD.out.size)); clear hb6)
      | (go_at_call 17; refine (HS.out _).mono ?_; rintro e w7 ⟨he, hw7⟩; obtain rfl := he; subst hw7))
  go_wp2
  go_ret
  exact ⟨rfl, HB5.out.trans (HD6.out.mono HB5.out.size)⟩
set_option maxHeartbeats 800000 in
theorem lays_walk (s : ByteArray) (i : Int) (l : List UInt8) (A : Option Addr) (n c : Nat) (w : World) (hn : l.length = n) (hc : n ≤ c) (hm : c ≤ maxLen) (hr : Rd w w.heap.size A (bytesV l)) :
    Calls Try.prog 3 #[.agg #[.string s, .int .i64 i], .slice A n c] w fun e w' => e = .returned (.bool true) ∧ Below w.heap.size w w' := by
  by_cases h : s.size ≤ 1000
  · exact lays_in s i l A n c w hn hc hm hr h
  · have hs1 : 1000 < (s.size : Int) := by omega
    clear hn hc hm hr h
    go_enter Try.func3, Try.ntmps3
    go_wp2_with (go_at_call 10; (with_reducible refine (shown_any _).mono ?_); rintro e w1 ⟨he, hb1⟩; obtain rfl := he; obtain ⟨hk1, hb1', hs1'⟩ := kept_ent hb1; obtain ⟨a0, a1⟩ := ent_cells hk1; have HB1 := Lib.hid hb1'; clear hb1 hb1')
    go_ret
    exact ⟨rfl, HB1.out⟩

theorem lays_contract (H : Type) (enc : TypeId × Value → H) (W : World) (base : Nat) (args : Array Value) (ds gs : List (DataW H)) (before : List MemPlace)
    (hval : ∀ (j : Nat) t v, Try.f3.params[j]? = some t → args[j]? = some v → Value.okWide Try.prog W .any base t v)
    (hW : DataW.Whole enc Try.prog Try.f3.params.toList Rows.entryLaysSpec.vars false W args.toList ds gs before) :
    Calls Try.prog 3 args W fun e W' => ∃ v, e = .returned v ∧ Rows.entryLaysSpec.post enc Try.prog Try.f3 false true false false W args v W' := by
  have hW' := hW
  have hlt : ∀ x ∈ before, x.block < W.heap.size := fun x hx => hW.lt x hx
  obtain ⟨p, q, hA0, hV, rfl, _, _⟩ := hW
  have hA : DataW.TrodAll enc Try.prog W 0 (fun _ => true) true Try.f3.params.toList args.toList ds p := hA0
  rw [Try.params3] at hA hval
  obtain ⟨v0, vs0, d0, ds0, p0, q0, hargs, rfl, rfl, h0, r0⟩ := trodAll_cons hA
  obtain ⟨v1, vs1, d1, ds1, p1, q1, rfl, rfl, rfl, h1, r1⟩ := trodAll_cons r0
  obtain ⟨rfl, rfl, rfl⟩ := trodAll_nil r1
  obtain rfl : args = #[v0, v1] := by cases args; simp_all
  obtain ⟨rfl, rfl⟩ := trodVars_none hV
  clear hA0
  obtain ⟨s0, i0, rfl, hs0, hj0, hk0⟩ := open_ent (hval 0 23 v0 rfl rfl) h0
  unfold maxLen at hs0
  obtain ⟨A1, n1, c1, l1, rfl, hn1, hc1, hm1, hr1⟩ := open_bytesL Try.underlying24 Try.underlying5 cells5 (hval 1 24 v1 rfl rfl) h1 (fun x hx => hlt x (by simp [hx]))
  unfold maxLen at hm1
  refine (lays_walk s0 i0 l1 A1 n1 c1 W hn1 hc1 (by unfold maxLen; omega) hr1).mono fun e W' ⟨he, hb⟩ => ?_
  subst he
  exact ⟨_, rfl, law_post laid (by kernel_rfl) Try.underlying4 (by rw [Try.params3]; decide +kernel) rfl hW' ⟨rfl, rfl, rfl⟩ hb⟩

set_option maxRecDepth 100000 in
theorem lays_lifted (os : Os) (started : os.Started) (H : Type) (enc : TypeId × Value → H) :
    ReturnsInHanded {} Try.checked os 3 .any (Rows.entryLaysSpec.pre6 enc Try.prog Try.f3 Rows.entryLaysRow.domain false) (Rows.entryLaysSpec.post enc Try.prog Try.f3 false true false false) := by
  refine returnsInHanded_of_change (C := Try.checked) own started (by kernel_rfl) Try.func3
    (ChangeSpec.witness6 (enc := enc) (C := Try.checked) false ⟨#[], #[.agg #[.string .empty, .int .i64 0], .slice none 0 0], []⟩ 8 (by kernel_rfl) (by kernel_rfl) (by kernel_rfl) (by kernel_rfl)) ?_
  intro W base args ds gs before hval hW _ _
  exact lays_contract H enc W base args ds gs before hval hW

/-- EntryLays is true for every input. -/
theorem lays_holds : Rows.EntryLaysSaid :=
  OpenClaim.holds_of_wide 3 Try.f3 rfl rfl rfl rfl rfl rfl rfl ⟨rfl, rfl, rfl, rfl, rfl⟩ rfl rfl rfl rfl rfl (by kernel_rfl) Try.func3 (by kernel_rfl)
    (of_decide_eq_true (by kernel_rfl)) (by unfold Func.isWrapper; first | (rw [if_pos (by decide +kernel)]; kernel_rfl) | (rw [if_neg (by decide +kernel)]; exact ⟨rfl, rfl⟩))
    (fun os started H enc _ => lays_lifted os started H enc)
end Go.Proofs.Ytlopndnjkphdnaa
