/-
  EntryBack: whatever the entry (a name of up to 1,000 bytes) and the bytes (of up to 100), what was laid is taken, and what is taken is laid so.
-/
import Derived.Test.YtlopndnjkphdnaaO
import Derived.Test.YtlopndnjkphdnaaEntryS
import Derived.BigRegion
import Derived.Deep.RegionHeld3
namespace Go.Proofs.Ytlopndnjkphdnaa
open Go.ChangeShapes Go.WideShapes Go.ChangeAt Go.RowKit Entry

/-- What is laid of an entry, and taken again. -/
def One (s : ByteArray) (i : Int) (k q : Nat) (rb : Bool) (ys : ByteArray) (yi : Int) (on : Bool) (er : Int) : Prop :=
  (k = 120 ∧ q = 0 ∧ rb = false ∧ on = false ∧ er = 121) ∨ (k = 1 ∧ q = 0 ∧ rb = true ∧ on = false ∧ er = 121) ∨ (k = 0 ∧ q = 16 ∧ rb = true ∧ ys = s ∧ yi = i ∧ on = true ∧ er = 0)
theorem arr_list (s : ByteArray) : (⟨s.data.toList.toArray⟩ : ByteArray) = s := by cases s; simp
theorem lay_one (s : ByteArray) (i : Int) : ∃ (bs : List UInt8) (k q : Nat) (rb : Bool) (ys : ByteArray) (yi : Int) (on : Bool) (er : Int), layE hsh s.data.toList i = (bs, k) ∧ bs.length = q ∧ nameB s.data.toList = rb ∧ slotV (takS hsh bs) = .tuple #[.agg #[.string ys, .int .i64 yi], .bool on, .int .i64 er] ∧ One s i k q rb ys yi on er := by
  have h0 : takS hsh [] = none := takS_len (by simp)
  cases hN : nameB s.data.toList
  · exact ⟨[], 120, 0, _, _, _, _, _, layE_name hN, rfl, rfl, by rw [h0]; rfl, .inl ⟨rfl, rfl, rfl, rfl, rfl⟩⟩
  · by_cases hi : 0 ≤ i ∧ i < 64
    · have hx : Ok ⟨s.data.toList, i.toNat⟩ := ⟨hN, by have := hi.1; have := hi.2; show i.toNat < 64; omega⟩
      refine ⟨_, 0, 16, _, s, i, true, 0, layE_yes hN hi, length_entB hx, rfl, ?_, .inr (.inr ⟨rfl, rfl, rfl, rfl, rfl, rfl, rfl⟩)⟩
      rw [show entB hsh ⟨s.data.toList, i.toNat⟩ = slotB hsh (some ⟨s.data.toList, i.toNat⟩) from rfl, tak_slot (.some hx)]
      show Value.tuple #[.agg #[.string ⟨s.data.toList.toArray⟩, .int .i64 ((i.toNat : Nat) : Int)], .bool true, .int .i64 0] = _
      rw [arr_list, show ((i.toNat : Nat) : Int) = i by have := hi.1; omega]
    · exact ⟨[], 1, 0, _, _, _, _, _, layE_ino hN hi, rfl, rfl, by rw [h0]; rfl, .inr (.inl ⟨rfl, rfl, rfl, rfl, rfl⟩)⟩
set_option maxHeartbeats 3200000 in
set_option maxRecDepth 100000 in
theorem back_none (s : ByteArray) (i : Int) (l : List UInt8) (A : Option Addr) (n c : Nat) (w : World) (hr : Rd w w.heap.size A (bytesV l)) (hs : decide (1000 < (s.size : Int)) = false) (hn : decide (100 < (n : Int)) = false)
    (bs : List UInt8) (k q : Nat) (rb : Bool) (ys : ByteArray) (yi : Int) (on : Bool) (er : Int) (hq : bs.length = q) (one : One s i k q rb ys yi on er)
    (HL : Hid (∀ W, Calls Try.prog 11 #[.agg #[.string s, .int .i64 i]] W fun e w' => Hands W (bs, k) e w'))
    (HA : Hid (∀ (A1 : Option Addr) (c1 : Nat) (W : World), Rd W W.heap.size A1 (bytesV bs) → q ≤ c1 → Calls Try.prog 13 #[.slice A1 q c1] W fun e w' => e = .returned (.tuple #[.agg #[.string ys, .int .i64 yi], .bool on, .int .i64 er]) ∧ Below W.heap.size W w'))
    (HR : Hid (∀ W, Calls Try.prog 16 #[.string s] W fun e w' => e = .returned (.bool rb) ∧ Below W.heap.size W w'))
    (H13 : Hid (∀ W, Rd W W.heap.size A (bytesV l) → Calls Try.prog 13 #[.slice A n c] W fun e w' => e = .returned (.tuple #[.agg #[.string ⟨#[]⟩, .int .i64 0], .bool false, .int .i64 121]) ∧ Below W.heap.size W w'))
    (HZ : Hid (∀ W, Calls Try.prog 11 #[.agg #[.string ⟨#[]⟩, .int .i64 0]] W fun e w' => Hands W (([] : List UInt8), 120) e w')) (HCQ : Hid ((([] : List UInt8), 120).1.length = 0)) :
    Calls Try.prog 6 #[.agg #[.string s, .int .i64 i], .slice A n c] w fun e w' => e = .returned (.bool true) ∧ Below w.heap.size w w' := by
  have hne : ∀ W, (binOp .neq 23 (.agg #[.string s, .int .i64 i]) (.agg #[.string s, .int .i64 i])).run Try.prog W = .ok (.bool false) W := fun W => by
    have := ent_neq W s s i i
    simpa using this
  have hg : ∀ (x y : Operand) (xs zs : Array Value) (op : BinOp) (W : World), (eqGuard op 23 x y (.agg xs) (.agg zs)).run Try.prog W = .ok () W := fun x y xs zs op W => guard_at23 W x y xs zs op
  have Hr := Lib.hid hr
  have Hq : Hid ((bs, k).1.length = q) := Lib.hid hq
  clear hr hq
  rcases one with ⟨rfl, rfl, rfl, rfl, rfl⟩ | ⟨rfl, rfl, rfl, rfl, rfl⟩ | ⟨rfl, rfl, rfl, rfl, rfl, rfl, rfl⟩
  all_goals
    go_enter Try.func6, Try.ntmps6
    go_wp2_with (first
      | (go_at_call 10; (with_reducible refine (shown_any _).mono ?_); rintro e w1 ⟨he, hb1⟩; obtain rfl := he; obtain ⟨hk1, hb1', hs1'⟩ := kept_ent hb1; obtain ⟨a0, a1⟩ := ent_cells hk1; have HK1 := Lib.hid hk1; have HB1 := Lib.hid hb1'; clear hb1 hb1' hk1)
      | (go_at_call 11; (with_reducible refine (HL.out _).mono ?_); rintro e w2 hh; obtain ⟨A2, d2, he, hc2, -, hr2, hb2⟩ := hh.got Hq.out; obtain rfl := he; have hk2 := HK1.out.below hb2 HK1.out.lt; have HK2 := Lib.hid hk2; have HB2 := Lib.hid (HB1.out.trans (hb2.mono HB1.out.size)); have HR2 := Lib.hid hr2; have HC2 := Lib.hid hc2; clear hh hb2 hr2 hk2 a0 a1 hc2)
      | (go_at_call 13; (with_reducible refine (HA.out _ _ _ HR2.out HC2.out).mono ?_); rintro e w3 ⟨he, hb3⟩; obtain rfl := he; have hk3 := HK2.out.below hb3 HK2.out.lt; obtain ⟨a0, a1⟩ := ent_cells hk3; have hlt3 := hk3.lt; have hB3 := HB2.out.trans (hb3.mono HB2.out.size); have HB3 := Lib.hid (fun o => hB3.trans ((alloc_below w3 o).mono hB3.size)); clear hb3 hk3 hB3)
      | (go_at_call 16; (with_reducible refine (HR.out _).mono ?_); rintro e w4 ⟨he, hb4⟩; obtain rfl := he; have HB4 := Lib.hid ((HB3.out _).trans (hb4.mono (HB3.out _).size)); clear hb4 a0 a1 hlt3)
      | (go_at_call 13; (with_reducible refine (H13.out _ ((Hr.out.below HB4.out).more HB4.out.size)).mono ?_); rintro e w5 ⟨he, hb5⟩; obtain rfl := he; have hB5 := HB4.out.trans (hb5.mono HB4.out.size); have HB5 := Lib.hid (fun o => hB5.trans ((alloc_below w5 o).mono hB5.size)); clear hb5 hB5)
      | (go_at_call 11; (with_reducible refine (HZ.out _).mono ?_); rintro e w6 hh; obtain ⟨A6, d6, he, -, -, hr6, hb6⟩ := hh.got HCQ.out; obtain rfl := he; obtain ⟨hj6, -, hlt6⟩ := kept_ent hb6; obtain ⟨z0, z1⟩ := ent_cells hj6; have HB6 := Lib.hid ((HB5.out _).trans (hb6.mono (HB5.out _).size)); have HR6 := Lib.hid hr6; clear hh hb6 hr6 hj6))
  · have heqz : ∀ W, (binOp .eql 23 (.agg #[.string ⟨#[]⟩, .int .i64 0]) (.agg #[.string ⟨#[]⟩, .int .i64 0])).run Try.prog W = .ok (.bool true) W := fun W => by
      have := ent_eql W ⟨#[]⟩ ⟨#[]⟩ 0 0
      simpa using this
    have HD := Lib.hid (below_drew HB6.out)
    have f0 : w6.drew.cell? ⟨w5.heap.size, 0, none⟩ = some (.string ⟨#[]⟩) := z0
    have f1 : w6.drew.cell? ⟨w5.heap.size, 1, none⟩ = some (.int .i64 0) := z1
    refine wp_region_held_drew (S := fun u => u = w6.drew) (by kernel_rfl) rfl (fun hHeld => ?_)
    refine wpAnyH_take (i := 0) (oi := _) (v := ?_) (by simp only [List.getElem?_toArray, List.getElem?_cons_zero]; rfl) (by kernel_rfl) (by kernel_rfl) (by kernel_rfl) (by exact fun _ _ _ h => h) (Or.inl ⟨by rfl, ?hya0⟩) (by exact hHeld) ?rea0
    case hya0 => (rintro u rfl; go_simp <;> with_reducible rfl)
    try simp only [Act.put, List.setIfInBounds_toArray, List.set_cons_zero, List.set_cons_succ]
    refine wpAnyH_take (i := 1) (oi := _) (v := ?_) (by simp only [List.getElem?_toArray, List.getElem?_cons_succ, List.getElem?_cons_zero]; rfl) (by kernel_rfl) (by kernel_rfl) (by kernel_rfl) (by exact fun _ _ _ h => h) (Or.inl ⟨by rfl, ?hya1⟩) (by exact hHeld) ?rea1
    case hya1 => (rintro u rfl; go_simp <;> with_reducible rfl)
    try simp only [Act.put, List.setIfInBounds_toArray, List.set_cons_zero, List.set_cons_succ]
    refine wpAnyH_take (i := 2) (oi := _) (v := ?_) (by simp only [List.getElem?_toArray, List.getElem?_cons_succ, List.getElem?_cons_zero]; rfl) (by kernel_rfl) (by kernel_rfl) (by kernel_rfl) (by exact fun _ _ _ h => h) (Or.inl ⟨by rfl, ?hya2⟩) (by exact hHeld) ?rea2
    case hya2 => (rintro u rfl; go_simp <;> with_reducible rfl)
    try simp only [Act.put, List.setIfInBounds_toArray, List.set_cons_zero, List.set_cons_succ]
    refine wpAnyH_take (i := 3) (oi := _) (v := ?_) (by simp only [List.getElem?_toArray, List.getElem?_cons_succ, List.getElem?_cons_zero]; rfl) (by kernel_rfl) (by kernel_rfl) (by kernel_rfl) (by exact fun _ _ _ h => h) (Or.inl ⟨by rfl, ?hya3⟩) (by exact hHeld) ?rea3
    case hya3 => (rintro u rfl; go_simp <;> with_reducible rfl)
    try simp only [Act.put, List.setIfInBounds_toArray, List.set_cons_zero, List.set_cons_succ]
    refine wpAnyH_take (i := 4) (oi := _) (v := .bool true) (by simp only [List.getElem?_toArray, List.getElem?_cons_succ, List.getElem?_cons_zero]; rfl) (by kernel_rfl) (by kernel_rfl) (by kernel_rfl) (by exact fun _ _ _ h => h) (Or.inl ⟨by rfl, ?hya4⟩) (by exact hHeld) ?rea4
    case hya4 => (rintro u rfl; go_simp)
    try simp only [Act.put, List.setIfInBounds_toArray, List.set_cons_zero, List.set_cons_succ]
    refine wpAnyH_take (i := 5) (oi := _) (v := ?_) (by simp only [List.getElem?_toArray, List.getElem?_cons_succ, List.getElem?_cons_zero]; rfl) (by kernel_rfl) (by kernel_rfl) (by kernel_rfl) (by exact fun _ _ _ h => h) (Or.inl ⟨by rfl, ?hya5⟩) (by exact hHeld) ?rea5
    case hya5 => (rintro u rfl; go_simp <;> with_reducible rfl)
    try simp only [Act.put, List.setIfInBounds_toArray, List.set_cons_zero, List.set_cons_succ]
    refine wpAnyH_take (i := 6) (oi := _) (v := ?_) (by simp only [List.getElem?_toArray, List.getElem?_cons_succ, List.getElem?_cons_zero]; rfl) (by kernel_rfl) (by kernel_rfl) (by kernel_rfl) (by exact fun _ _ _ h => h) (Or.inl ⟨by rfl, ?hya6⟩) (by exact hHeld) ?rea6
    case hya6 => (rintro u rfl; go_simp <;> with_reducible rfl)
    try simp only [Act.put, List.setIfInBounds_toArray, List.set_cons_zero, List.set_cons_succ]
    refine wpAnyH_take (i := 7) (oi := _) (v := ?_) (by simp only [List.getElem?_toArray, List.getElem?_cons_succ, List.getElem?_cons_zero]; rfl) (by kernel_rfl) (by kernel_rfl) (by kernel_rfl) (by exact fun _ _ _ h => h) (Or.inl ⟨by rfl, ?hya7⟩) (by exact hHeld) ?rea7
    case hya7 => (rintro u rfl; go_simp <;> with_reducible rfl)
    try simp only [Act.put, List.setIfInBounds_toArray, List.set_cons_zero, List.set_cons_succ]
    refine wpAnyH_take (i := 8) (oi := _) (v := ?_) (by simp only [List.getElem?_toArray, List.getElem?_cons_succ, List.getElem?_cons_zero]; rfl) (by kernel_rfl) (by kernel_rfl) (by kernel_rfl) (by exact fun _ _ _ h => h) (Or.inl ⟨by rfl, ?hya8⟩) (by exact hHeld) ?rea8
    case hya8 => (rintro u rfl; go_simp <;> with_reducible rfl)
    try simp only [Act.put, List.setIfInBounds_toArray, List.set_cons_zero, List.set_cons_succ]
    refine wpAnyH_take (i := 9) (oi := _) (v := ?_) (by simp only [List.getElem?_toArray, List.getElem?_cons_succ, List.getElem?_cons_zero]; rfl) (by kernel_rfl) (by kernel_rfl) (by kernel_rfl) (by exact fun _ _ _ h => h) (Or.inl ⟨by rfl, ?hya9⟩) (by exact hHeld) ?rea9
    case hya9 => (rintro u rfl; go_simp <;> with_reducible rfl)
    try simp only [Act.put, List.setIfInBounds_toArray, List.set_cons_zero, List.set_cons_succ]
    refine wpAnyH_take (i := 10) (oi := _) (v := undef) (by simp only [List.getElem?_toArray, List.getElem?_cons_succ, List.getElem?_cons_zero]; rfl) (by kernel_rfl) (by kernel_rfl) (by kernel_rfl) (by exact fun _ _ _ h => h) (Or.inr ⟨by rfl, rfl⟩) (by exact hHeld) ?_
    try simp only [Act.put, List.setIfInBounds_toArray, List.set_cons_zero, List.set_cons_succ]
    refine wpAnyH_take (i := 11) (oi := _) (v := undef) (by simp only [List.getElem?_toArray, List.getElem?_cons_succ, List.getElem?_cons_zero]; rfl) (by kernel_rfl) (by kernel_rfl) (by kernel_rfl) (by exact fun _ _ _ h => h) (Or.inr ⟨by rfl, rfl⟩) (by exact hHeld) ?_
    try simp only [Act.put, List.setIfInBounds_toArray, List.set_cons_zero, List.set_cons_succ]
    refine wpAnyH_take (i := 12) (oi := _) (v := undef) (by simp only [List.getElem?_toArray, List.getElem?_cons_succ, List.getElem?_cons_zero]; rfl) (by kernel_rfl) (by kernel_rfl) (by kernel_rfl) (by exact fun _ _ _ h => h) (Or.inr ⟨by rfl, rfl⟩) (by exact hHeld) ?_
    try simp only [Act.put, List.setIfInBounds_toArray, List.set_cons_zero, List.set_cons_succ]
    refine wpAnyH_take (i := 13) (oi := _) (v := undef) (by simp only [List.getElem?_toArray, List.getElem?_cons_succ, List.getElem?_cons_zero]; rfl) (by kernel_rfl) (by kernel_rfl) (by kernel_rfl) (by exact fun _ _ _ h => h) (Or.inr ⟨by rfl, rfl⟩) (by exact hHeld) ?_
    try simp only [Act.put, List.setIfInBounds_toArray, List.set_cons_zero, List.set_cons_succ]
    refine wpAnyH_take (i := 14) (oi := _) (v := undef) (by simp only [List.getElem?_toArray, List.getElem?_cons_succ, List.getElem?_cons_zero]; rfl) (by kernel_rfl) (by kernel_rfl) (by kernel_rfl) (by exact fun _ _ _ h => h) (Or.inr ⟨by rfl, rfl⟩) (by exact hHeld) ?_
    try simp only [Act.put, List.setIfInBounds_toArray, List.set_cons_zero, List.set_cons_succ]
    refine wpAnyH_take (i := 15) (oi := _) (v := ?_) (by simp only [List.getElem?_toArray, List.getElem?_cons_succ, List.getElem?_cons_zero]; rfl) (by kernel_rfl) (by kernel_rfl) (by kernel_rfl) (by exact fun _ _ _ h => h) (Or.inl ⟨by rfl, ?hya15⟩) (by exact hHeld) ?rea15
    case hya15 => (rintro u rfl; go_simp <;> with_reducible rfl)
    try simp only [Act.put, List.setIfInBounds_toArray, List.set_cons_zero, List.set_cons_succ]
    refine wpAnyH_take (i := 16) (oi := _) (v := ?_) (by simp only [List.getElem?_toArray, List.getElem?_cons_succ, List.getElem?_cons_zero]; rfl) (by kernel_rfl) (by kernel_rfl) (by kernel_rfl) (by exact fun _ _ _ h => h) (Or.inl ⟨by rfl, ?hya16⟩) (by exact hHeld) ?rea16
    case hya16 => (rintro u rfl; go_simp <;> with_reducible rfl)
    try simp only [Act.put, List.setIfInBounds_toArray, List.set_cons_zero, List.set_cons_succ]
    refine wpAnyH_take (i := 17) (oi := _) (v := ?_) (by simp only [List.getElem?_toArray, List.getElem?_cons_succ, List.getElem?_cons_zero]; rfl) (by kernel_rfl) (by kernel_rfl) (by kernel_rfl) (by exact fun _ _ _ h => h) (Or.inl ⟨by rfl, ?hya17⟩) (by exact hHeld) ?rea17
    case hya17 => (rintro u rfl; go_simp <;> with_reducible rfl)
    try simp only [Act.put, List.setIfInBounds_toArray, List.set_cons_zero, List.set_cons_succ]
    refine wpAnyH_done (by kernel_rfl) ?_ _
    go_wp2
    go_ret
    exact ⟨rfl, HD.out⟩
  · have heqz : ∀ W, (binOp .eql 23 (.agg #[.string ⟨#[]⟩, .int .i64 0]) (.agg #[.string ⟨#[]⟩, .int .i64 0])).run Try.prog W = .ok (.bool true) W := fun W => by
      have := ent_eql W ⟨#[]⟩ ⟨#[]⟩ 0 0
      simpa using this
    have HD := Lib.hid (below_drew HB6.out)
    have f0 : w6.drew.cell? ⟨w5.heap.size, 0, none⟩ = some (.string ⟨#[]⟩) := z0
    have f1 : w6.drew.cell? ⟨w5.heap.size, 1, none⟩ = some (.int .i64 0) := z1
    refine wp_region_held_drew (S := fun u => u = w6.drew) (by kernel_rfl) rfl (fun hHeld => ?_)
    refine wpAnyH_take (i := 0) (oi := _) (v := ?_) (by simp only [List.getElem?_toArray, List.getElem?_cons_zero]; rfl) (by kernel_rfl) (by kernel_rfl) (by kernel_rfl) (by exact fun _ _ _ h => h) (Or.inl ⟨by rfl, ?hyb0⟩) (by exact hHeld) ?reb0
    case hyb0 => (rintro u rfl; go_simp <;> with_reducible rfl)
    try simp only [Act.put, List.setIfInBounds_toArray, List.set_cons_zero, List.set_cons_succ]
    refine wpAnyH_take (i := 1) (oi := _) (v := ?_) (by simp only [List.getElem?_toArray, List.getElem?_cons_succ, List.getElem?_cons_zero]; rfl) (by kernel_rfl) (by kernel_rfl) (by kernel_rfl) (by exact fun _ _ _ h => h) (Or.inl ⟨by rfl, ?hyb1⟩) (by exact hHeld) ?reb1
    case hyb1 => (rintro u rfl; go_simp <;> with_reducible rfl)
    try simp only [Act.put, List.setIfInBounds_toArray, List.set_cons_zero, List.set_cons_succ]
    refine wpAnyH_take (i := 2) (oi := _) (v := ?_) (by simp only [List.getElem?_toArray, List.getElem?_cons_succ, List.getElem?_cons_zero]; rfl) (by kernel_rfl) (by kernel_rfl) (by kernel_rfl) (by exact fun _ _ _ h => h) (Or.inl ⟨by rfl, ?hyb2⟩) (by exact hHeld) ?reb2
    case hyb2 => (rintro u rfl; go_simp <;> with_reducible rfl)
    try simp only [Act.put, List.setIfInBounds_toArray, List.set_cons_zero, List.set_cons_succ]
    refine wpAnyH_take (i := 3) (oi := _) (v := ?_) (by simp only [List.getElem?_toArray, List.getElem?_cons_succ, List.getElem?_cons_zero]; rfl) (by kernel_rfl) (by kernel_rfl) (by kernel_rfl) (by exact fun _ _ _ h => h) (Or.inl ⟨by rfl, ?hyb3⟩) (by exact hHeld) ?reb3
    case hyb3 => (rintro u rfl; go_simp <;> with_reducible rfl)
    try simp only [Act.put, List.setIfInBounds_toArray, List.set_cons_zero, List.set_cons_succ]
    refine wpAnyH_take (i := 4) (oi := _) (v := .bool true) (by simp only [List.getElem?_toArray, List.getElem?_cons_succ, List.getElem?_cons_zero]; rfl) (by kernel_rfl) (by kernel_rfl) (by kernel_rfl) (by exact fun _ _ _ h => h) (Or.inl ⟨by rfl, ?hyb4⟩) (by exact hHeld) ?reb4
    case hyb4 => (rintro u rfl; go_simp)
    try simp only [Act.put, List.setIfInBounds_toArray, List.set_cons_zero, List.set_cons_succ]
    refine wpAnyH_take (i := 5) (oi := _) (v := ?_) (by simp only [List.getElem?_toArray, List.getElem?_cons_succ, List.getElem?_cons_zero]; rfl) (by kernel_rfl) (by kernel_rfl) (by kernel_rfl) (by exact fun _ _ _ h => h) (Or.inl ⟨by rfl, ?hyb5⟩) (by exact hHeld) ?reb5
    case hyb5 => (rintro u rfl; go_simp <;> with_reducible rfl)
    try simp only [Act.put, List.setIfInBounds_toArray, List.set_cons_zero, List.set_cons_succ]
    refine wpAnyH_take (i := 6) (oi := _) (v := ?_) (by simp only [List.getElem?_toArray, List.getElem?_cons_succ, List.getElem?_cons_zero]; rfl) (by kernel_rfl) (by kernel_rfl) (by kernel_rfl) (by exact fun _ _ _ h => h) (Or.inl ⟨by rfl, ?hyb6⟩) (by exact hHeld) ?reb6
    case hyb6 => (rintro u rfl; go_simp <;> with_reducible rfl)
    try simp only [Act.put, List.setIfInBounds_toArray, List.set_cons_zero, List.set_cons_succ]
    refine wpAnyH_take (i := 7) (oi := _) (v := ?_) (by simp only [List.getElem?_toArray, List.getElem?_cons_succ, List.getElem?_cons_zero]; rfl) (by kernel_rfl) (by kernel_rfl) (by kernel_rfl) (by exact fun _ _ _ h => h) (Or.inl ⟨by rfl, ?hyb7⟩) (by exact hHeld) ?reb7
    case hyb7 => (rintro u rfl; go_simp <;> with_reducible rfl)
    try simp only [Act.put, List.setIfInBounds_toArray, List.set_cons_zero, List.set_cons_succ]
    refine wpAnyH_take (i := 8) (oi := _) (v := ?_) (by simp only [List.getElem?_toArray, List.getElem?_cons_succ, List.getElem?_cons_zero]; rfl) (by kernel_rfl) (by kernel_rfl) (by kernel_rfl) (by exact fun _ _ _ h => h) (Or.inl ⟨by rfl, ?hyb8⟩) (by exact hHeld) ?reb8
    case hyb8 => (rintro u rfl; go_simp <;> with_reducible rfl)
    try simp only [Act.put, List.setIfInBounds_toArray, List.set_cons_zero, List.set_cons_succ]
    refine wpAnyH_take (i := 9) (oi := _) (v := ?_) (by simp only [List.getElem?_toArray, List.getElem?_cons_succ, List.getElem?_cons_zero]; rfl) (by kernel_rfl) (by kernel_rfl) (by kernel_rfl) (by exact fun _ _ _ h => h) (Or.inl ⟨by rfl, ?hyb9⟩) (by exact hHeld) ?reb9
    case hyb9 => (rintro u rfl; go_simp <;> with_reducible rfl)
    try simp only [Act.put, List.setIfInBounds_toArray, List.set_cons_zero, List.set_cons_succ]
    refine wpAnyH_take (i := 10) (oi := _) (v := undef) (by simp only [List.getElem?_toArray, List.getElem?_cons_succ, List.getElem?_cons_zero]; rfl) (by kernel_rfl) (by kernel_rfl) (by kernel_rfl) (by exact fun _ _ _ h => h) (Or.inr ⟨by rfl, rfl⟩) (by exact hHeld) ?_
    try simp only [Act.put, List.setIfInBounds_toArray, List.set_cons_zero, List.set_cons_succ]
    refine wpAnyH_take (i := 11) (oi := _) (v := undef) (by simp only [List.getElem?_toArray, List.getElem?_cons_succ, List.getElem?_cons_zero]; rfl) (by kernel_rfl) (by kernel_rfl) (by kernel_rfl) (by exact fun _ _ _ h => h) (Or.inr ⟨by rfl, rfl⟩) (by exact hHeld) ?_
    try simp only [Act.put, List.setIfInBounds_toArray, List.set_cons_zero, List.set_cons_succ]
    refine wpAnyH_take (i := 12) (oi := _) (v := undef) (by simp only [List.getElem?_toArray, List.getElem?_cons_succ, List.getElem?_cons_zero]; rfl) (by kernel_rfl) (by kernel_rfl) (by kernel_rfl) (by exact fun _ _ _ h => h) (Or.inr ⟨by rfl, rfl⟩) (by exact hHeld) ?_
    try simp only [Act.put, List.setIfInBounds_toArray, List.set_cons_zero, List.set_cons_succ]
    refine wpAnyH_take (i := 13) (oi := _) (v := undef) (by simp only [List.getElem?_toArray, List.getElem?_cons_succ, List.getElem?_cons_zero]; rfl) (by kernel_rfl) (by kernel_rfl) (by kernel_rfl) (by exact fun _ _ _ h => h) (Or.inr ⟨by rfl, rfl⟩) (by exact hHeld) ?_
    try simp only [Act.put, List.setIfInBounds_toArray, List.set_cons_zero, List.set_cons_succ]
    refine wpAnyH_take (i := 14) (oi := _) (v := undef) (by simp only [List.getElem?_toArray, List.getElem?_cons_succ, List.getElem?_cons_zero]; rfl) (by kernel_rfl) (by kernel_rfl) (by kernel_rfl) (by exact fun _ _ _ h => h) (Or.inr ⟨by rfl, rfl⟩) (by exact hHeld) ?_
    try simp only [Act.put, List.setIfInBounds_toArray, List.set_cons_zero, List.set_cons_succ]
    refine wpAnyH_take (i := 15) (oi := _) (v := ?_) (by simp only [List.getElem?_toArray, List.getElem?_cons_succ, List.getElem?_cons_zero]; rfl) (by kernel_rfl) (by kernel_rfl) (by kernel_rfl) (by exact fun _ _ _ h => h) (Or.inl ⟨by rfl, ?hyb15⟩) (by exact hHeld) ?reb15
    case hyb15 => (rintro u rfl; go_simp <;> with_reducible rfl)
    try simp only [Act.put, List.setIfInBounds_toArray, List.set_cons_zero, List.set_cons_succ]
    refine wpAnyH_take (i := 16) (oi := _) (v := ?_) (by simp only [List.getElem?_toArray, List.getElem?_cons_succ, List.getElem?_cons_zero]; rfl) (by kernel_rfl) (by kernel_rfl) (by kernel_rfl) (by exact fun _ _ _ h => h) (Or.inl ⟨by rfl, ?hyb16⟩) (by exact hHeld) ?reb16
    case hyb16 => (rintro u rfl; go_simp <;> with_reducible rfl)
    try simp only [Act.put, List.setIfInBounds_toArray, List.set_cons_zero, List.set_cons_succ]
    refine wpAnyH_take (i := 17) (oi := _) (v := ?_) (by simp only [List.getElem?_toArray, List.getElem?_cons_succ, List.getElem?_cons_zero]; rfl) (by kernel_rfl) (by kernel_rfl) (by kernel_rfl) (by exact fun _ _ _ h => h) (Or.inl ⟨by rfl, ?hyb17⟩) (by exact hHeld) ?reb17
    case hyb17 => (rintro u rfl; go_simp <;> with_reducible rfl)
    try simp only [Act.put, List.setIfInBounds_toArray, List.set_cons_zero, List.set_cons_succ]
    refine wpAnyH_done (by kernel_rfl) ?_ _
    go_wp2
    go_ret
    exact ⟨rfl, HD.out⟩
  · have heqz : ∀ W, (binOp .eql 23 (.agg #[.string ⟨#[]⟩, .int .i64 0]) (.agg #[.string ⟨#[]⟩, .int .i64 0])).run Try.prog W = .ok (.bool true) W := fun W => by
      have := ent_eql W ⟨#[]⟩ ⟨#[]⟩ 0 0
      simpa using this
    have HD := Lib.hid (below_drew HB6.out)
    have f0 : w6.drew.cell? ⟨w5.heap.size, 0, none⟩ = some (.string ⟨#[]⟩) := z0
    have f1 : w6.drew.cell? ⟨w5.heap.size, 1, none⟩ = some (.int .i64 0) := z1
    refine wp_region_held_drew (S := fun u => u = w6.drew) (by kernel_rfl) rfl (fun hHeld => ?_)
    refine wpAnyH_take (i := 0) (oi := _) (v := ?_) (by simp only [List.getElem?_toArray, List.getElem?_cons_zero]; rfl) (by kernel_rfl) (by kernel_rfl) (by kernel_rfl) (by exact fun _ _ _ h => h) (Or.inl ⟨by rfl, ?hyc0⟩) (by exact hHeld) ?rec0
    case hyc0 => (rintro u rfl; go_simp <;> with_reducible rfl)
    try simp only [Act.put, List.setIfInBounds_toArray, List.set_cons_zero, List.set_cons_succ]
    refine wpAnyH_take (i := 1) (oi := _) (v := ?_) (by simp only [List.getElem?_toArray, List.getElem?_cons_succ, List.getElem?_cons_zero]; rfl) (by kernel_rfl) (by kernel_rfl) (by kernel_rfl) (by exact fun _ _ _ h => h) (Or.inl ⟨by rfl, ?hyc1⟩) (by exact hHeld) ?rec1
    case hyc1 => (rintro u rfl; go_simp <;> with_reducible rfl)
    try simp only [Act.put, List.setIfInBounds_toArray, List.set_cons_zero, List.set_cons_succ]
    refine wpAnyH_take (i := 2) (oi := _) (v := ?_) (by simp only [List.getElem?_toArray, List.getElem?_cons_succ, List.getElem?_cons_zero]; rfl) (by kernel_rfl) (by kernel_rfl) (by kernel_rfl) (by exact fun _ _ _ h => h) (Or.inl ⟨by rfl, ?hyc2⟩) (by exact hHeld) ?rec2
    case hyc2 => (rintro u rfl; go_simp <;> with_reducible rfl)
    try simp only [Act.put, List.setIfInBounds_toArray, List.set_cons_zero, List.set_cons_succ]
    refine wpAnyH_take (i := 3) (oi := _) (v := ?_) (by simp only [List.getElem?_toArray, List.getElem?_cons_succ, List.getElem?_cons_zero]; rfl) (by kernel_rfl) (by kernel_rfl) (by kernel_rfl) (by exact fun _ _ _ h => h) (Or.inl ⟨by rfl, ?hyc3⟩) (by exact hHeld) ?rec3
    case hyc3 => (rintro u rfl; go_simp <;> with_reducible rfl)
    try simp only [Act.put, List.setIfInBounds_toArray, List.set_cons_zero, List.set_cons_succ]
    refine wpAnyH_take (i := 4) (oi := _) (v := .bool true) (by simp only [List.getElem?_toArray, List.getElem?_cons_succ, List.getElem?_cons_zero]; rfl) (by kernel_rfl) (by kernel_rfl) (by kernel_rfl) (by exact fun _ _ _ h => h) (Or.inl ⟨by rfl, ?hyc4⟩) (by exact hHeld) ?rec4
    case hyc4 => (rintro u rfl; go_simp)
    try simp only [Act.put, List.setIfInBounds_toArray, List.set_cons_zero, List.set_cons_succ]
    refine wpAnyH_take (i := 5) (oi := _) (v := ?_) (by simp only [List.getElem?_toArray, List.getElem?_cons_succ, List.getElem?_cons_zero]; rfl) (by kernel_rfl) (by kernel_rfl) (by kernel_rfl) (by exact fun _ _ _ h => h) (Or.inl ⟨by rfl, ?hyc5⟩) (by exact hHeld) ?rec5
    case hyc5 => (rintro u rfl; go_simp <;> with_reducible rfl)
    try simp only [Act.put, List.setIfInBounds_toArray, List.set_cons_zero, List.set_cons_succ]
    refine wpAnyH_take (i := 6) (oi := _) (v := ?_) (by simp only [List.getElem?_toArray, List.getElem?_cons_succ, List.getElem?_cons_zero]; rfl) (by kernel_rfl) (by kernel_rfl) (by kernel_rfl) (by exact fun _ _ _ h => h) (Or.inl ⟨by rfl, ?hyc6⟩) (by exact hHeld) ?rec6
    case hyc6 => (rintro u rfl; go_simp <;> with_reducible rfl)
    try simp only [Act.put, List.setIfInBounds_toArray, List.set_cons_zero, List.set_cons_succ]
    refine wpAnyH_take (i := 7) (oi := _) (v := ?_) (by simp only [List.getElem?_toArray, List.getElem?_cons_succ, List.getElem?_cons_zero]; rfl) (by kernel_rfl) (by kernel_rfl) (by kernel_rfl) (by exact fun _ _ _ h => h) (Or.inl ⟨by rfl, ?hyc7⟩) (by exact hHeld) ?rec7
    case hyc7 => (rintro u rfl; go_simp <;> with_reducible rfl)
    try simp only [Act.put, List.setIfInBounds_toArray, List.set_cons_zero, List.set_cons_succ]
    refine wpAnyH_take (i := 8) (oi := _) (v := ?_) (by simp only [List.getElem?_toArray, List.getElem?_cons_succ, List.getElem?_cons_zero]; rfl) (by kernel_rfl) (by kernel_rfl) (by kernel_rfl) (by exact fun _ _ _ h => h) (Or.inl ⟨by rfl, ?hyc8⟩) (by exact hHeld) ?rec8
    case hyc8 => (rintro u rfl; go_simp <;> with_reducible rfl)
    try simp only [Act.put, List.setIfInBounds_toArray, List.set_cons_zero, List.set_cons_succ]
    refine wpAnyH_take (i := 9) (oi := _) (v := ?_) (by simp only [List.getElem?_toArray, List.getElem?_cons_succ, List.getElem?_cons_zero]; rfl) (by kernel_rfl) (by kernel_rfl) (by kernel_rfl) (by exact fun _ _ _ h => h) (Or.inl ⟨by rfl, ?hyc9⟩) (by exact hHeld) ?rec9
    case hyc9 => (rintro u rfl; go_simp <;> with_reducible rfl)
    try simp only [Act.put, List.setIfInBounds_toArray, List.set_cons_zero, List.set_cons_succ]
    refine wpAnyH_take (i := 10) (oi := _) (v := undef) (by simp only [List.getElem?_toArray, List.getElem?_cons_succ, List.getElem?_cons_zero]; rfl) (by kernel_rfl) (by kernel_rfl) (by kernel_rfl) (by exact fun _ _ _ h => h) (Or.inr ⟨by rfl, rfl⟩) (by exact hHeld) ?_
    try simp only [Act.put, List.setIfInBounds_toArray, List.set_cons_zero, List.set_cons_succ]
    refine wpAnyH_take (i := 11) (oi := _) (v := undef) (by simp only [List.getElem?_toArray, List.getElem?_cons_succ, List.getElem?_cons_zero]; rfl) (by kernel_rfl) (by kernel_rfl) (by kernel_rfl) (by exact fun _ _ _ h => h) (Or.inr ⟨by rfl, rfl⟩) (by exact hHeld) ?_
    try simp only [Act.put, List.setIfInBounds_toArray, List.set_cons_zero, List.set_cons_succ]
    refine wpAnyH_take (i := 12) (oi := _) (v := undef) (by simp only [List.getElem?_toArray, List.getElem?_cons_succ, List.getElem?_cons_zero]; rfl) (by kernel_rfl) (by kernel_rfl) (by kernel_rfl) (by exact fun _ _ _ h => h) (Or.inr ⟨by rfl, rfl⟩) (by exact hHeld) ?_
    try simp only [Act.put, List.setIfInBounds_toArray, List.set_cons_zero, List.set_cons_succ]
    refine wpAnyH_take (i := 13) (oi := _) (v := undef) (by simp only [List.getElem?_toArray, List.getElem?_cons_succ, List.getElem?_cons_zero]; rfl) (by kernel_rfl) (by kernel_rfl) (by kernel_rfl) (by exact fun _ _ _ h => h) (Or.inr ⟨by rfl, rfl⟩) (by exact hHeld) ?_
    try simp only [Act.put, List.setIfInBounds_toArray, List.set_cons_zero, List.set_cons_succ]
    refine wpAnyH_take (i := 14) (oi := _) (v := undef) (by simp only [List.getElem?_toArray, List.getElem?_cons_succ, List.getElem?_cons_zero]; rfl) (by kernel_rfl) (by kernel_rfl) (by kernel_rfl) (by exact fun _ _ _ h => h) (Or.inr ⟨by rfl, rfl⟩) (by exact hHeld) ?_
    try simp only [Act.put, List.setIfInBounds_toArray, List.set_cons_zero, List.set_cons_succ]
    refine wpAnyH_take (i := 15) (oi := _) (v := ?_) (by simp only [List.getElem?_toArray, List.getElem?_cons_succ, List.getElem?_cons_zero]; rfl) (by kernel_rfl) (by kernel_rfl) (by kernel_rfl) (by exact fun _ _ _ h => h) (Or.inl ⟨by rfl, ?hyc15⟩) (by exact hHeld) ?rec15
    case hyc15 => (rintro u rfl; go_simp <;> with_reducible rfl)
    try simp only [Act.put, List.setIfInBounds_toArray, List.set_cons_zero, List.set_cons_succ]
    refine wpAnyH_take (i := 16) (oi := _) (v := ?_) (by simp only [List.getElem?_toArray, List.getElem?_cons_succ, List.getElem?_cons_zero]; rfl) (by kernel_rfl) (by kernel_rfl) (by kernel_rfl) (by exact fun _ _ _ h => h) (Or.inl ⟨by rfl, ?hyc16⟩) (by exact hHeld) ?rec16
    case hyc16 => (rintro u rfl; go_simp <;> with_reducible rfl)
    try simp only [Act.put, List.setIfInBounds_toArray, List.set_cons_zero, List.set_cons_succ]
    refine wpAnyH_take (i := 17) (oi := _) (v := ?_) (by simp only [List.getElem?_toArray, List.getElem?_cons_succ, List.getElem?_cons_zero]; rfl) (by kernel_rfl) (by kernel_rfl) (by kernel_rfl) (by exact fun _ _ _ h => h) (Or.inl ⟨by rfl, ?hyc17⟩) (by exact hHeld) ?rec17
    case hyc17 => (rintro u rfl; go_simp <;> with_reducible rfl)
    try simp only [Act.put, List.setIfInBounds_toArray, List.set_cons_zero, List.set_cons_succ]
    refine wpAnyH_done (by kernel_rfl) ?_ _
    go_wp2
    go_ret
    exact ⟨rfl, HD.out⟩
set_option maxHeartbeats 3200000 in
set_option maxRecDepth 100000 in
theorem back_free (s : ByteArray) (i : Int) (l : List UInt8) (A : Option Addr) (n c : Nat) (w : World) (hr : Rd w w.heap.size A (bytesV l)) (hs : decide (1000 < (s.size : Int)) = false) (hn : decide (100 < (n : Int)) = false)
    (bs : List UInt8) (k q : Nat) (rb : Bool) (ys : ByteArray) (yi : Int) (on : Bool) (er : Int) (hq : bs.length = q) (one : One s i k q rb ys yi on er)
    (HL : Hid (∀ W, Calls Try.prog 11 #[.agg #[.string s, .int .i64 i]] W fun e w' => Hands W (bs, k) e w'))
    (HA : Hid (∀ (A1 : Option Addr) (c1 : Nat) (W : World), Rd W W.heap.size A1 (bytesV bs) → q ≤ c1 → Calls Try.prog 13 #[.slice A1 q c1] W fun e w' => e = .returned (.tuple #[.agg #[.string ys, .int .i64 yi], .bool on, .int .i64 er]) ∧ Below W.heap.size W w'))
    (HR : Hid (∀ W, Calls Try.prog 16 #[.string s] W fun e w' => e = .returned (.bool rb) ∧ Below W.heap.size W w'))
    (H13 : Hid (∀ W, Rd W W.heap.size A (bytesV l) → Calls Try.prog 13 #[.slice A n c] W fun e w' => e = .returned (.tuple #[.agg #[.string ⟨#[]⟩, .int .i64 0], .bool false, .int .i64 0]) ∧ Below W.heap.size W w'))
    (HZ : Hid (∀ W, Calls Try.prog 11 #[.agg #[.string ⟨#[]⟩, .int .i64 0]] W fun e w' => Hands W (([] : List UInt8), 120) e w')) (HCQ : Hid ((([] : List UInt8), 120).1.length = 0)) (hl : Hid (l = zeros16)) (hn16 : Hid (n = 16)) :
    Calls Try.prog 6 #[.agg #[.string s, .int .i64 i], .slice A n c] w fun e w' => e = .returned (.bool true) ∧ Below w.heap.size w w' := by
  have hne : ∀ W, (binOp .neq 23 (.agg #[.string s, .int .i64 i]) (.agg #[.string s, .int .i64 i])).run Try.prog W = .ok (.bool false) W := fun W => by
    have := ent_neq W s s i i
    simpa using this
  have hg : ∀ (x y : Operand) (xs zs : Array Value) (op : BinOp) (W : World), (eqGuard op 23 x y (.agg xs) (.agg zs)).run Try.prog W = .ok () W := fun x y xs zs op W => guard_at23 W x y xs zs op
  have Hr := Lib.hid hr
  have Hq : Hid ((bs, k).1.length = q) := Lib.hid hq
  clear hr hq
  rcases one with ⟨rfl, rfl, rfl, rfl, rfl⟩ | ⟨rfl, rfl, rfl, rfl, rfl⟩ | ⟨rfl, rfl, rfl, rfl, rfl, rfl, rfl⟩
  all_goals
    go_enter Try.func6, Try.ntmps6
    go_wp2_with (first
      | (go_at_call 10; (with_reducible refine (shown_any _).mono ?_); rintro e w1 ⟨he, hb1⟩; obtain rfl := he; obtain ⟨hk1, hb1', hs1'⟩ := kept_ent hb1; obtain ⟨a0, a1⟩ := ent_cells hk1; have HK1 := Lib.hid hk1; have HB1 := Lib.hid hb1'; clear hb1 hb1' hk1)
      | (go_at_call 11; (with_reducible refine (HL.out _).mono ?_); rintro e w2 hh; obtain ⟨A2, d2, he, hc2, -, hr2, hb2⟩ := hh.got Hq.out; obtain rfl := he; have hk2 := HK1.out.below hb2 HK1.out.lt; have HK2 := Lib.hid hk2; have HB2 := Lib.hid (HB1.out.trans (hb2.mono HB1.out.size)); have HR2 := Lib.hid hr2; have HC2 := Lib.hid hc2; clear hh hb2 hr2 hk2 a0 a1 hc2)
      | (go_at_call 13; (with_reducible refine (HA.out _ _ _ HR2.out HC2.out).mono ?_); rintro e w3 ⟨he, hb3⟩; obtain rfl := he; have hk3 := HK2.out.below hb3 HK2.out.lt; obtain ⟨a0, a1⟩ := ent_cells hk3; have hlt3 := hk3.lt; have hB3 := HB2.out.trans (hb3.mono HB2.out.size); have HB3 := Lib.hid (fun o => hB3.trans ((alloc_below w3 o).mono hB3.size)); clear hb3 hk3 hB3)
      | (go_at_call 16; (with_reducible refine (HR.out _).mono ?_); rintro e w4 ⟨he, hb4⟩; obtain rfl := he; have HB4 := Lib.hid ((HB3.out _).trans (hb4.mono (HB3.out _).size)); clear hb4 a0 a1 hlt3)
      | (go_at_call 13; (with_reducible refine (H13.out _ ((Hr.out.below HB4.out).more HB4.out.size)).mono ?_); rintro e w5 ⟨he, hb5⟩; obtain rfl := he; have hB5 := HB4.out.trans (hb5.mono HB4.out.size); have HB5 := Lib.hid (fun o => hB5.trans ((alloc_below w5 o).mono hB5.size)); clear hb5 hB5)
      | (go_at_call 11; (with_reducible refine (HZ.out _).mono ?_); rintro e w6 hh; obtain ⟨A6, d6, he, -, -, hr6, hb6⟩ := hh.got HCQ.out; obtain rfl := he; obtain ⟨hj6, -, hlt6⟩ := kept_ent hb6; obtain ⟨z0, z1⟩ := ent_cells hj6; have HB6 := Lib.hid ((HB5.out _).trans (hb6.mono (HB5.out _).size)); have HR6 := Lib.hid hr6; clear hh hb6 hr6 hj6))
  · have heqz : ∀ W, (binOp .eql 23 (.agg #[.string ⟨#[]⟩, .int .i64 0]) (.agg #[.string ⟨#[]⟩, .int .i64 0])).run Try.prog W = .ok (.bool true) W := fun W => by
      have := ent_eql W ⟨#[]⟩ ⟨#[]⟩ 0 0
      simpa using this
    obtain rfl := hl.out
    obtain rfl := hn16.out
    have hba := below_drew (alloc_below w6 (.cells (bytesV zeros16).toArray 5))
    have HE := Lib.hid (HB6.out.trans (hba.mono HB6.out.size))
    have HF := Lib.hid hba
    have hmk := make16
    have Hx : Hid (∀ u, Below w6.heap.size w6 u → (convert 24 9 (.slice A 16 c)).run Try.prog u = .ok (.string ⟨zeros16.toArray⟩) u) := Lib.hid fun u hu => str_of rfl (Hr.out.below (HB6.out.trans (hu.mono HB6.out.size)))
    have hs3 : (convert 24 9 (.slice (some ⟨w6.heap.size, 0, none⟩) 16 16)).run Try.prog (w6.alloc (.cells (bytesV zeros16).toArray 5)).drew = .ok (.string ⟨zeros16.toArray⟩) (w6.alloc (.cells (bytesV zeros16).toArray 5)).drew := str_of rfl (show Rd (w6.alloc (.cells (bytesV zeros16).toArray 5)).drew _ _ _ from zeros_rd w6)
    have g0 : (w6.alloc (.cells (bytesV zeros16).toArray 5)).drew.cell? ⟨w5.heap.size, 0, none⟩ = some (.string ⟨#[]⟩) := (HF.out.cell (p := ⟨w5.heap.size, 0, none⟩) hlt6).trans z0
    have g1 : (w6.alloc (.cells (bytesV zeros16).toArray 5)).drew.cell? ⟨w5.heap.size, 1, none⟩ = some (.int .i64 0) := (HF.out.cell (p := ⟨w5.heap.size, 1, none⟩) hlt6).trans z1
    have hH0 : w6.drew.cell? ⟨w5.heap.size, 0, none⟩ = some (.string ⟨#[]⟩) ∧ w6.drew.cell? ⟨w5.heap.size, 1, none⟩ = some (.int .i64 0) ∧ Below w6.heap.size w6 w6.drew := ⟨z0, z1, below_drew (Below.refl _ _)⟩
    clear hba
    refine wp_region_held_drew (S := fun u => u.cell? ⟨w5.heap.size, 0, none⟩ = some (.string ⟨#[]⟩) ∧ u.cell? ⟨w5.heap.size, 1, none⟩ = some (.int .i64 0) ∧ Below w6.heap.size w6 u) (by kernel_rfl) hH0 (fun hHeld => ?_)
    refine wpAnyH_take (i := 0) (oi := _) (v := ?_) (by simp only [List.getElem?_toArray, List.getElem?_cons_zero]; rfl) (by kernel_rfl) (by kernel_rfl) (by kernel_rfl) (by exact fun _ _ _ h => h) (Or.inl ⟨by rfl, ?hya0⟩) (by exact hHeld) ?rea0
    case hya0 => ((intro u hu; obtain ⟨hu0, hu1, hub⟩ := hu; have hxu := Hx.out u hub); go_simp <;> with_reducible rfl)
    try simp only [Act.put, List.setIfInBounds_toArray, List.set_cons_zero, List.set_cons_succ]
    refine wpAnyH_take (i := 1) (oi := _) (v := ?_) (by simp only [List.getElem?_toArray, List.getElem?_cons_succ, List.getElem?_cons_zero]; rfl) (by kernel_rfl) (by kernel_rfl) (by kernel_rfl) (by exact fun _ _ _ h => h) (Or.inl ⟨by rfl, ?hya1⟩) (by exact hHeld) ?rea1
    case hya1 => ((intro u hu; obtain ⟨hu0, hu1, hub⟩ := hu; have hxu := Hx.out u hub); go_simp <;> with_reducible rfl)
    try simp only [Act.put, List.setIfInBounds_toArray, List.set_cons_zero, List.set_cons_succ]
    refine wpAnyH_take (i := 2) (oi := _) (v := ?_) (by simp only [List.getElem?_toArray, List.getElem?_cons_succ, List.getElem?_cons_zero]; rfl) (by kernel_rfl) (by kernel_rfl) (by kernel_rfl) (by exact fun _ _ _ h => h) (Or.inl ⟨by rfl, ?hya2⟩) (by exact hHeld) ?rea2
    case hya2 => ((intro u hu; obtain ⟨hu0, hu1, hub⟩ := hu; have hxu := Hx.out u hub); go_simp <;> with_reducible rfl)
    try simp only [Act.put, List.setIfInBounds_toArray, List.set_cons_zero, List.set_cons_succ]
    refine wpAnyH_take (i := 3) (oi := _) (v := ?_) (by simp only [List.getElem?_toArray, List.getElem?_cons_succ, List.getElem?_cons_zero]; rfl) (by kernel_rfl) (by kernel_rfl) (by kernel_rfl) (by exact fun _ _ _ h => h) (Or.inl ⟨by rfl, ?hya3⟩) (by exact hHeld) ?rea3
    case hya3 => ((intro u hu; obtain ⟨hu0, hu1, hub⟩ := hu; have hxu := Hx.out u hub); go_simp <;> with_reducible rfl)
    try simp only [Act.put, List.setIfInBounds_toArray, List.set_cons_zero, List.set_cons_succ]
    refine wpAnyH_take (i := 4) (oi := _) (v := .bool true) (by simp only [List.getElem?_toArray, List.getElem?_cons_succ, List.getElem?_cons_zero]; rfl) (by kernel_rfl) (by kernel_rfl) (by kernel_rfl) (by exact fun _ _ _ h => h) (Or.inl ⟨by rfl, ?hya4⟩) (by exact hHeld) ?rea4
    case hya4 => ((intro u hu; obtain ⟨hu0, hu1, hub⟩ := hu; have hxu := Hx.out u hub); go_simp)
    try simp only [Act.put, List.setIfInBounds_toArray, List.set_cons_zero, List.set_cons_succ]
    refine wpAnyH_take (i := 5) (oi := _) (v := ?_) (by simp only [List.getElem?_toArray, List.getElem?_cons_succ, List.getElem?_cons_zero]; rfl) (by kernel_rfl) (by kernel_rfl) (by kernel_rfl) (by exact fun _ _ _ h => h) (Or.inl ⟨by rfl, ?hya5⟩) (by exact hHeld) ?rea5
    case hya5 => ((intro u hu; obtain ⟨hu0, hu1, hub⟩ := hu; have hxu := Hx.out u hub); go_simp <;> with_reducible rfl)
    try simp only [Act.put, List.setIfInBounds_toArray, List.set_cons_zero, List.set_cons_succ]
    refine wpAnyH_take (i := 6) (oi := _) (v := ?_) (by simp only [List.getElem?_toArray, List.getElem?_cons_succ, List.getElem?_cons_zero]; rfl) (by kernel_rfl) (by kernel_rfl) (by kernel_rfl) (by exact fun _ _ _ h => h) (Or.inl ⟨by rfl, ?hya6⟩) (by exact hHeld) ?rea6
    case hya6 => ((intro u hu; obtain ⟨hu0, hu1, hub⟩ := hu; have hxu := Hx.out u hub); go_simp <;> with_reducible rfl)
    try simp only [Act.put, List.setIfInBounds_toArray, List.set_cons_zero, List.set_cons_succ]
    refine wpAnyH_take (i := 7) (oi := _) (v := ?_) (by simp only [List.getElem?_toArray, List.getElem?_cons_succ, List.getElem?_cons_zero]; rfl) (by kernel_rfl) (by kernel_rfl) (by kernel_rfl) (by exact fun _ _ _ h => h) (Or.inl ⟨by rfl, ?hya7⟩) (by exact hHeld) ?rea7
    case hya7 => ((intro u hu; obtain ⟨hu0, hu1, hub⟩ := hu; have hxu := Hx.out u hub); go_simp <;> with_reducible rfl)
    try simp only [Act.put, List.setIfInBounds_toArray, List.set_cons_zero, List.set_cons_succ]
    refine wpAnyH_take (i := 8) (oi := _) (v := ?_) (by simp only [List.getElem?_toArray, List.getElem?_cons_succ, List.getElem?_cons_zero]; rfl) (by kernel_rfl) (by kernel_rfl) (by kernel_rfl) (by exact fun _ _ _ h => h) (Or.inl ⟨by rfl, ?hya8⟩) (by exact hHeld) ?rea8
    case hya8 => ((intro u hu; obtain ⟨hu0, hu1, hub⟩ := hu; have hxu := Hx.out u hub); go_simp <;> with_reducible rfl)
    try simp only [Act.put, List.setIfInBounds_toArray, List.set_cons_zero, List.set_cons_succ]
    refine wpAnyH_take (i := 9) (oi := _) (v := ?_) (by simp only [List.getElem?_toArray, List.getElem?_cons_succ, List.getElem?_cons_zero]; rfl) (by kernel_rfl) (by kernel_rfl) (by kernel_rfl) (by exact fun _ _ _ h => h) (Or.inl ⟨by rfl, ?hya9⟩) (by exact hHeld) ?rea9
    case hya9 => ((intro u hu; obtain ⟨hu0, hu1, hub⟩ := hu; have hxu := Hx.out u hub); go_simp <;> with_reducible rfl)
    try simp only [Act.put, List.setIfInBounds_toArray, List.set_cons_zero, List.set_cons_succ]
    refine wpAnyH_take (i := 10) (oi := _) (v := ?_) (by simp only [List.getElem?_toArray, List.getElem?_cons_succ, List.getElem?_cons_zero]; rfl) (by kernel_rfl) (by kernel_rfl) (by kernel_rfl) (by exact fun _ _ _ h => h) (Or.inl ⟨by rfl, ?hya10⟩) (by exact hHeld) ?rea10
    case hya10 => ((intro u hu; obtain ⟨hu0, hu1, hub⟩ := hu; have hxu := Hx.out u hub); go_simp <;> with_reducible rfl)
    try simp only [Act.put, List.setIfInBounds_toArray, List.set_cons_zero, List.set_cons_succ]
    refine wpAnyH_take (i := 11) (oi := _) (v := ?_) (by simp only [List.getElem?_toArray, List.getElem?_cons_succ, List.getElem?_cons_zero]; rfl) (by kernel_rfl) (by kernel_rfl) (by kernel_rfl) (by exact fun _ _ _ h => h) (Or.inl ⟨by rfl, ?hya11⟩) (by exact hHeld) ?rea11
    case hya11 => ((intro u hu; obtain ⟨hu0, hu1, hub⟩ := hu; have hxu := Hx.out u hub); go_simp <;> with_reducible rfl)
    try simp only [Act.put, List.setIfInBounds_toArray, List.set_cons_zero, List.set_cons_succ]
    refine wpAnyH_ready (rs := [12]) (by kernel_rfl) (by simp) ?_
    refine AllReadyH.cons (o := _) (by simp only [List.getElem?_toArray, List.getElem?_cons_succ, List.getElem?_cons_zero]; rfl) (fun K hK => ?_) AllReadyH.nil
    go_simp
    refine hK.out _ _ ⟨g0, g1, HF.out⟩ (fun hHeld2 => ?_)
    refine held_strong (T := fun u => u = (w6.alloc (.cells (bytesV zeros16).toArray 5)).drew) (by rintro _ rfl; exact hHeld2) _ _ _ _ ?_
    clear hK K hHeld hHeld2
    refine wpAnyH_take (i := 13) (oi := _) (v := ?_) (by simp only [List.getElem?_toArray, List.getElem?_cons_succ, List.getElem?_cons_zero]; rfl) (by kernel_rfl) (by kernel_rfl) (by kernel_rfl) (by exact fun _ _ _ h => h) (Or.inl ⟨by rfl, ?hya13⟩) (by exact rfl) ?rea13
    case hya13 => (rintro u rfl; go_simp <;> with_reducible rfl)
    try simp only [Act.put, List.setIfInBounds_toArray, List.set_cons_zero, List.set_cons_succ]
    refine wpAnyH_take (i := 14) (oi := _) (v := .bool true) (by simp only [List.getElem?_toArray, List.getElem?_cons_succ, List.getElem?_cons_zero]; rfl) (by kernel_rfl) (by kernel_rfl) (by kernel_rfl) (by exact fun _ _ _ h => h) (Or.inl ⟨by rfl, ?hya14⟩) (by exact rfl) ?rea14
    case hya14 => (rintro u rfl; go_simp)
    try simp only [Act.put, List.setIfInBounds_toArray, List.set_cons_zero, List.set_cons_succ]
    refine wpAnyH_take (i := 15) (oi := _) (v := ?_) (by simp only [List.getElem?_toArray, List.getElem?_cons_succ, List.getElem?_cons_zero]; rfl) (by kernel_rfl) (by kernel_rfl) (by kernel_rfl) (by exact fun _ _ _ h => h) (Or.inl ⟨by rfl, ?hya15⟩) (by exact rfl) ?rea15
    case hya15 => (rintro u rfl; go_simp <;> with_reducible rfl)
    try simp only [Act.put, List.setIfInBounds_toArray, List.set_cons_zero, List.set_cons_succ]
    refine wpAnyH_take (i := 16) (oi := _) (v := ?_) (by simp only [List.getElem?_toArray, List.getElem?_cons_succ, List.getElem?_cons_zero]; rfl) (by kernel_rfl) (by kernel_rfl) (by kernel_rfl) (by exact fun _ _ _ h => h) (Or.inl ⟨by rfl, ?hya16⟩) (by exact rfl) ?rea16
    case hya16 => (rintro u rfl; go_simp <;> with_reducible rfl)
    try simp only [Act.put, List.setIfInBounds_toArray, List.set_cons_zero, List.set_cons_succ]
    refine wpAnyH_take (i := 17) (oi := _) (v := ?_) (by simp only [List.getElem?_toArray, List.getElem?_cons_succ, List.getElem?_cons_zero]; rfl) (by kernel_rfl) (by kernel_rfl) (by kernel_rfl) (by exact fun _ _ _ h => h) (Or.inl ⟨by rfl, ?hya17⟩) (by exact rfl) ?rea17
    case hya17 => (rintro u rfl; go_simp <;> with_reducible rfl)
    try simp only [Act.put, List.setIfInBounds_toArray, List.set_cons_zero, List.set_cons_succ]
    refine wpAnyH_done (by kernel_rfl) ?_ _
    go_wp2
    go_ret
    exact ⟨rfl, HE.out⟩
  · have heqz : ∀ W, (binOp .eql 23 (.agg #[.string ⟨#[]⟩, .int .i64 0]) (.agg #[.string ⟨#[]⟩, .int .i64 0])).run Try.prog W = .ok (.bool true) W := fun W => by
      have := ent_eql W ⟨#[]⟩ ⟨#[]⟩ 0 0
      simpa using this
    obtain rfl := hl.out
    obtain rfl := hn16.out
    have hba := below_drew (alloc_below w6 (.cells (bytesV zeros16).toArray 5))
    have HE := Lib.hid (HB6.out.trans (hba.mono HB6.out.size))
    have HF := Lib.hid hba
    have hmk := make16
    have Hx : Hid (∀ u, Below w6.heap.size w6 u → (convert 24 9 (.slice A 16 c)).run Try.prog u = .ok (.string ⟨zeros16.toArray⟩) u) := Lib.hid fun u hu => str_of rfl (Hr.out.below (HB6.out.trans (hu.mono HB6.out.size)))
    have hs3 : (convert 24 9 (.slice (some ⟨w6.heap.size, 0, none⟩) 16 16)).run Try.prog (w6.alloc (.cells (bytesV zeros16).toArray 5)).drew = .ok (.string ⟨zeros16.toArray⟩) (w6.alloc (.cells (bytesV zeros16).toArray 5)).drew := str_of rfl (show Rd (w6.alloc (.cells (bytesV zeros16).toArray 5)).drew _ _ _ from zeros_rd w6)
    have g0 : (w6.alloc (.cells (bytesV zeros16).toArray 5)).drew.cell? ⟨w5.heap.size, 0, none⟩ = some (.string ⟨#[]⟩) := (HF.out.cell (p := ⟨w5.heap.size, 0, none⟩) hlt6).trans z0
    have g1 : (w6.alloc (.cells (bytesV zeros16).toArray 5)).drew.cell? ⟨w5.heap.size, 1, none⟩ = some (.int .i64 0) := (HF.out.cell (p := ⟨w5.heap.size, 1, none⟩) hlt6).trans z1
    have hH0 : w6.drew.cell? ⟨w5.heap.size, 0, none⟩ = some (.string ⟨#[]⟩) ∧ w6.drew.cell? ⟨w5.heap.size, 1, none⟩ = some (.int .i64 0) ∧ Below w6.heap.size w6 w6.drew := ⟨z0, z1, below_drew (Below.refl _ _)⟩
    clear hba
    refine wp_region_held_drew (S := fun u => u.cell? ⟨w5.heap.size, 0, none⟩ = some (.string ⟨#[]⟩) ∧ u.cell? ⟨w5.heap.size, 1, none⟩ = some (.int .i64 0) ∧ Below w6.heap.size w6 u) (by kernel_rfl) hH0 (fun hHeld => ?_)
    refine wpAnyH_take (i := 0) (oi := _) (v := ?_) (by simp only [List.getElem?_toArray, List.getElem?_cons_zero]; rfl) (by kernel_rfl) (by kernel_rfl) (by kernel_rfl) (by exact fun _ _ _ h => h) (Or.inl ⟨by rfl, ?hyb0⟩) (by exact hHeld) ?reb0
    case hyb0 => ((intro u hu; obtain ⟨hu0, hu1, hub⟩ := hu; have hxu := Hx.out u hub); go_simp <;> with_reducible rfl)
    try simp only [Act.put, List.setIfInBounds_toArray, List.set_cons_zero, List.set_cons_succ]
    refine wpAnyH_take (i := 1) (oi := _) (v := ?_) (by simp only [List.getElem?_toArray, List.getElem?_cons_succ, List.getElem?_cons_zero]; rfl) (by kernel_rfl) (by kernel_rfl) (by kernel_rfl) (by exact fun _ _ _ h => h) (Or.inl ⟨by rfl, ?hyb1⟩) (by exact hHeld) ?reb1
    case hyb1 => ((intro u hu; obtain ⟨hu0, hu1, hub⟩ := hu; have hxu := Hx.out u hub); go_simp <;> with_reducible rfl)
    try simp only [Act.put, List.setIfInBounds_toArray, List.set_cons_zero, List.set_cons_succ]
    refine wpAnyH_take (i := 2) (oi := _) (v := ?_) (by simp only [List.getElem?_toArray, List.getElem?_cons_succ, List.getElem?_cons_zero]; rfl) (by kernel_rfl) (by kernel_rfl) (by kernel_rfl) (by exact fun _ _ _ h => h) (Or.inl ⟨by rfl, ?hyb2⟩) (by exact hHeld) ?reb2
    case hyb2 => ((intro u hu; obtain ⟨hu0, hu1, hub⟩ := hu; have hxu := Hx.out u hub); go_simp <;> with_reducible rfl)
    try simp only [Act.put, List.setIfInBounds_toArray, List.set_cons_zero, List.set_cons_succ]
    refine wpAnyH_take (i := 3) (oi := _) (v := ?_) (by simp only [List.getElem?_toArray, List.getElem?_cons_succ, List.getElem?_cons_zero]; rfl) (by kernel_rfl) (by kernel_rfl) (by kernel_rfl) (by exact fun _ _ _ h => h) (Or.inl ⟨by rfl, ?hyb3⟩) (by exact hHeld) ?reb3
    case hyb3 => ((intro u hu; obtain ⟨hu0, hu1, hub⟩ := hu; have hxu := Hx.out u hub); go_simp <;> with_reducible rfl)
    try simp only [Act.put, List.setIfInBounds_toArray, List.set_cons_zero, List.set_cons_succ]
    refine wpAnyH_take (i := 4) (oi := _) (v := .bool true) (by simp only [List.getElem?_toArray, List.getElem?_cons_succ, List.getElem?_cons_zero]; rfl) (by kernel_rfl) (by kernel_rfl) (by kernel_rfl) (by exact fun _ _ _ h => h) (Or.inl ⟨by rfl, ?hyb4⟩) (by exact hHeld) ?reb4
    case hyb4 => ((intro u hu; obtain ⟨hu0, hu1, hub⟩ := hu; have hxu := Hx.out u hub); go_simp)
    try simp only [Act.put, List.setIfInBounds_toArray, List.set_cons_zero, List.set_cons_succ]
    refine wpAnyH_take (i := 5) (oi := _) (v := ?_) (by simp only [List.getElem?_toArray, List.getElem?_cons_succ, List.getElem?_cons_zero]; rfl) (by kernel_rfl) (by kernel_rfl) (by kernel_rfl) (by exact fun _ _ _ h => h) (Or.inl ⟨by rfl, ?hyb5⟩) (by exact hHeld) ?reb5
    case hyb5 => ((intro u hu; obtain ⟨hu0, hu1, hub⟩ := hu; have hxu := Hx.out u hub); go_simp <;> with_reducible rfl)
    try simp only [Act.put, List.setIfInBounds_toArray, List.set_cons_zero, List.set_cons_succ]
    refine wpAnyH_take (i := 6) (oi := _) (v := ?_) (by simp only [List.getElem?_toArray, List.getElem?_cons_succ, List.getElem?_cons_zero]; rfl) (by kernel_rfl) (by kernel_rfl) (by kernel_rfl) (by exact fun _ _ _ h => h) (Or.inl ⟨by rfl, ?hyb6⟩) (by exact hHeld) ?reb6
    case hyb6 => ((intro u hu; obtain ⟨hu0, hu1, hub⟩ := hu; have hxu := Hx.out u hub); go_simp <;> with_reducible rfl)
    try simp only [Act.put, List.setIfInBounds_toArray, List.set_cons_zero, List.set_cons_succ]
    refine wpAnyH_take (i := 7) (oi := _) (v := ?_) (by simp only [List.getElem?_toArray, List.getElem?_cons_succ, List.getElem?_cons_zero]; rfl) (by kernel_rfl) (by kernel_rfl) (by kernel_rfl) (by exact fun _ _ _ h => h) (Or.inl ⟨by rfl, ?hyb7⟩) (by exact hHeld) ?reb7
    case hyb7 => ((intro u hu; obtain ⟨hu0, hu1, hub⟩ := hu; have hxu := Hx.out u hub); go_simp <;> with_reducible rfl)
    try simp only [Act.put, List.setIfInBounds_toArray, List.set_cons_zero, List.set_cons_succ]
    refine wpAnyH_take (i := 8) (oi := _) (v := ?_) (by simp only [List.getElem?_toArray, List.getElem?_cons_succ, List.getElem?_cons_zero]; rfl) (by kernel_rfl) (by kernel_rfl) (by kernel_rfl) (by exact fun _ _ _ h => h) (Or.inl ⟨by rfl, ?hyb8⟩) (by exact hHeld) ?reb8
    case hyb8 => ((intro u hu; obtain ⟨hu0, hu1, hub⟩ := hu; have hxu := Hx.out u hub); go_simp <;> with_reducible rfl)
    try simp only [Act.put, List.setIfInBounds_toArray, List.set_cons_zero, List.set_cons_succ]
    refine wpAnyH_take (i := 9) (oi := _) (v := ?_) (by simp only [List.getElem?_toArray, List.getElem?_cons_succ, List.getElem?_cons_zero]; rfl) (by kernel_rfl) (by kernel_rfl) (by kernel_rfl) (by exact fun _ _ _ h => h) (Or.inl ⟨by rfl, ?hyb9⟩) (by exact hHeld) ?reb9
    case hyb9 => ((intro u hu; obtain ⟨hu0, hu1, hub⟩ := hu; have hxu := Hx.out u hub); go_simp <;> with_reducible rfl)
    try simp only [Act.put, List.setIfInBounds_toArray, List.set_cons_zero, List.set_cons_succ]
    refine wpAnyH_take (i := 10) (oi := _) (v := ?_) (by simp only [List.getElem?_toArray, List.getElem?_cons_succ, List.getElem?_cons_zero]; rfl) (by kernel_rfl) (by kernel_rfl) (by kernel_rfl) (by exact fun _ _ _ h => h) (Or.inl ⟨by rfl, ?hyb10⟩) (by exact hHeld) ?reb10
    case hyb10 => ((intro u hu; obtain ⟨hu0, hu1, hub⟩ := hu; have hxu := Hx.out u hub); go_simp <;> with_reducible rfl)
    try simp only [Act.put, List.setIfInBounds_toArray, List.set_cons_zero, List.set_cons_succ]
    refine wpAnyH_take (i := 11) (oi := _) (v := ?_) (by simp only [List.getElem?_toArray, List.getElem?_cons_succ, List.getElem?_cons_zero]; rfl) (by kernel_rfl) (by kernel_rfl) (by kernel_rfl) (by exact fun _ _ _ h => h) (Or.inl ⟨by rfl, ?hyb11⟩) (by exact hHeld) ?reb11
    case hyb11 => ((intro u hu; obtain ⟨hu0, hu1, hub⟩ := hu; have hxu := Hx.out u hub); go_simp <;> with_reducible rfl)
    try simp only [Act.put, List.setIfInBounds_toArray, List.set_cons_zero, List.set_cons_succ]
    refine wpAnyH_ready (rs := [12]) (by kernel_rfl) (by simp) ?_
    refine AllReadyH.cons (o := _) (by simp only [List.getElem?_toArray, List.getElem?_cons_succ, List.getElem?_cons_zero]; rfl) (fun K hK => ?_) AllReadyH.nil
    go_simp
    refine hK.out _ _ ⟨g0, g1, HF.out⟩ (fun hHeld2 => ?_)
    refine held_strong (T := fun u => u = (w6.alloc (.cells (bytesV zeros16).toArray 5)).drew) (by rintro _ rfl; exact hHeld2) _ _ _ _ ?_
    clear hK K hHeld hHeld2
    refine wpAnyH_take (i := 13) (oi := _) (v := ?_) (by simp only [List.getElem?_toArray, List.getElem?_cons_succ, List.getElem?_cons_zero]; rfl) (by kernel_rfl) (by kernel_rfl) (by kernel_rfl) (by exact fun _ _ _ h => h) (Or.inl ⟨by rfl, ?hyb13⟩) (by exact rfl) ?reb13
    case hyb13 => (rintro u rfl; go_simp <;> with_reducible rfl)
    try simp only [Act.put, List.setIfInBounds_toArray, List.set_cons_zero, List.set_cons_succ]
    refine wpAnyH_take (i := 14) (oi := _) (v := .bool true) (by simp only [List.getElem?_toArray, List.getElem?_cons_succ, List.getElem?_cons_zero]; rfl) (by kernel_rfl) (by kernel_rfl) (by kernel_rfl) (by exact fun _ _ _ h => h) (Or.inl ⟨by rfl, ?hyb14⟩) (by exact rfl) ?reb14
    case hyb14 => (rintro u rfl; go_simp)
    try simp only [Act.put, List.setIfInBounds_toArray, List.set_cons_zero, List.set_cons_succ]
    refine wpAnyH_take (i := 15) (oi := _) (v := ?_) (by simp only [List.getElem?_toArray, List.getElem?_cons_succ, List.getElem?_cons_zero]; rfl) (by kernel_rfl) (by kernel_rfl) (by kernel_rfl) (by exact fun _ _ _ h => h) (Or.inl ⟨by rfl, ?hyb15⟩) (by exact rfl) ?reb15
    case hyb15 => (rintro u rfl; go_simp <;> with_reducible rfl)
    try simp only [Act.put, List.setIfInBounds_toArray, List.set_cons_zero, List.set_cons_succ]
    refine wpAnyH_take (i := 16) (oi := _) (v := ?_) (by simp only [List.getElem?_toArray, List.getElem?_cons_succ, List.getElem?_cons_zero]; rfl) (by kernel_rfl) (by kernel_rfl) (by kernel_rfl) (by exact fun _ _ _ h => h) (Or.inl ⟨by rfl, ?hyb16⟩) (by exact rfl) ?reb16
    case hyb16 => (rintro u rfl; go_simp <;> with_reducible rfl)
    try simp only [Act.put, List.setIfInBounds_toArray, List.set_cons_zero, List.set_cons_succ]
    refine wpAnyH_take (i := 17) (oi := _) (v := ?_) (by simp only [List.getElem?_toArray, List.getElem?_cons_succ, List.getElem?_cons_zero]; rfl) (by kernel_rfl) (by kernel_rfl) (by kernel_rfl) (by exact fun _ _ _ h => h) (Or.inl ⟨by rfl, ?hyb17⟩) (by exact rfl) ?reb17
    case hyb17 => (rintro u rfl; go_simp <;> with_reducible rfl)
    try simp only [Act.put, List.setIfInBounds_toArray, List.set_cons_zero, List.set_cons_succ]
    refine wpAnyH_done (by kernel_rfl) ?_ _
    go_wp2
    go_ret
    exact ⟨rfl, HE.out⟩
  · have heqz : ∀ W, (binOp .eql 23 (.agg #[.string ⟨#[]⟩, .int .i64 0]) (.agg #[.string ⟨#[]⟩, .int .i64 0])).run Try.prog W = .ok (.bool true) W := fun W => by
      have := ent_eql W ⟨#[]⟩ ⟨#[]⟩ 0 0
      simpa using this
    obtain rfl := hl.out
    obtain rfl := hn16.out
    have hba := below_drew (alloc_below w6 (.cells (bytesV zeros16).toArray 5))
    have HE := Lib.hid (HB6.out.trans (hba.mono HB6.out.size))
    have HF := Lib.hid hba
    have hmk := make16
    have Hx : Hid (∀ u, Below w6.heap.size w6 u → (convert 24 9 (.slice A 16 c)).run Try.prog u = .ok (.string ⟨zeros16.toArray⟩) u) := Lib.hid fun u hu => str_of rfl (Hr.out.below (HB6.out.trans (hu.mono HB6.out.size)))
    have hs3 : (convert 24 9 (.slice (some ⟨w6.heap.size, 0, none⟩) 16 16)).run Try.prog (w6.alloc (.cells (bytesV zeros16).toArray 5)).drew = .ok (.string ⟨zeros16.toArray⟩) (w6.alloc (.cells (bytesV zeros16).toArray 5)).drew := str_of rfl (show Rd (w6.alloc (.cells (bytesV zeros16).toArray 5)).drew _ _ _ from zeros_rd w6)
    have g0 : (w6.alloc (.cells (bytesV zeros16).toArray 5)).drew.cell? ⟨w5.heap.size, 0, none⟩ = some (.string ⟨#[]⟩) := (HF.out.cell (p := ⟨w5.heap.size, 0, none⟩) hlt6).trans z0
    have g1 : (w6.alloc (.cells (bytesV zeros16).toArray 5)).drew.cell? ⟨w5.heap.size, 1, none⟩ = some (.int .i64 0) := (HF.out.cell (p := ⟨w5.heap.size, 1, none⟩) hlt6).trans z1
    have hH0 : w6.drew.cell? ⟨w5.heap.size, 0, none⟩ = some (.string ⟨#[]⟩) ∧ w6.drew.cell? ⟨w5.heap.size, 1, none⟩ = some (.int .i64 0) ∧ Below w6.heap.size w6 w6.drew := ⟨z0, z1, below_drew (Below.refl _ _)⟩
    clear hba
    refine wp_region_held_drew (S := fun u => u.cell? ⟨w5.heap.size, 0, none⟩ = some (.string ⟨#[]⟩) ∧ u.cell? ⟨w5.heap.size, 1, none⟩ = some (.int .i64 0) ∧ Below w6.heap.size w6 u) (by kernel_rfl) hH0 (fun hHeld => ?_)
    refine wpAnyH_take (i := 0) (oi := _) (v := ?_) (by simp only [List.getElem?_toArray, List.getElem?_cons_zero]; rfl) (by kernel_rfl) (by kernel_rfl) (by kernel_rfl) (by exact fun _ _ _ h => h) (Or.inl ⟨by rfl, ?hyc0⟩) (by exact hHeld) ?rec0
    case hyc0 => ((intro u hu; obtain ⟨hu0, hu1, hub⟩ := hu; have hxu := Hx.out u hub); go_simp <;> with_reducible rfl)
    try simp only [Act.put, List.setIfInBounds_toArray, List.set_cons_zero, List.set_cons_succ]
    refine wpAnyH_take (i := 1) (oi := _) (v := ?_) (by simp only [List.getElem?_toArray, List.getElem?_cons_succ, List.getElem?_cons_zero]; rfl) (by kernel_rfl) (by kernel_rfl) (by kernel_rfl) (by exact fun _ _ _ h => h) (Or.inl ⟨by rfl, ?hyc1⟩) (by exact hHeld) ?rec1
    case hyc1 => ((intro u hu; obtain ⟨hu0, hu1, hub⟩ := hu; have hxu := Hx.out u hub); go_simp <;> with_reducible rfl)
    try simp only [Act.put, List.setIfInBounds_toArray, List.set_cons_zero, List.set_cons_succ]
    refine wpAnyH_take (i := 2) (oi := _) (v := ?_) (by simp only [List.getElem?_toArray, List.getElem?_cons_succ, List.getElem?_cons_zero]; rfl) (by kernel_rfl) (by kernel_rfl) (by kernel_rfl) (by exact fun _ _ _ h => h) (Or.inl ⟨by rfl, ?hyc2⟩) (by exact hHeld) ?rec2
    case hyc2 => ((intro u hu; obtain ⟨hu0, hu1, hub⟩ := hu; have hxu := Hx.out u hub); go_simp <;> with_reducible rfl)
    try simp only [Act.put, List.setIfInBounds_toArray, List.set_cons_zero, List.set_cons_succ]
    refine wpAnyH_take (i := 3) (oi := _) (v := ?_) (by simp only [List.getElem?_toArray, List.getElem?_cons_succ, List.getElem?_cons_zero]; rfl) (by kernel_rfl) (by kernel_rfl) (by kernel_rfl) (by exact fun _ _ _ h => h) (Or.inl ⟨by rfl, ?hyc3⟩) (by exact hHeld) ?rec3
    case hyc3 => ((intro u hu; obtain ⟨hu0, hu1, hub⟩ := hu; have hxu := Hx.out u hub); go_simp <;> with_reducible rfl)
    try simp only [Act.put, List.setIfInBounds_toArray, List.set_cons_zero, List.set_cons_succ]
    refine wpAnyH_take (i := 4) (oi := _) (v := .bool true) (by simp only [List.getElem?_toArray, List.getElem?_cons_succ, List.getElem?_cons_zero]; rfl) (by kernel_rfl) (by kernel_rfl) (by kernel_rfl) (by exact fun _ _ _ h => h) (Or.inl ⟨by rfl, ?hyc4⟩) (by exact hHeld) ?rec4
    case hyc4 => ((intro u hu; obtain ⟨hu0, hu1, hub⟩ := hu; have hxu := Hx.out u hub); go_simp)
    try simp only [Act.put, List.setIfInBounds_toArray, List.set_cons_zero, List.set_cons_succ]
    refine wpAnyH_take (i := 5) (oi := _) (v := ?_) (by simp only [List.getElem?_toArray, List.getElem?_cons_succ, List.getElem?_cons_zero]; rfl) (by kernel_rfl) (by kernel_rfl) (by kernel_rfl) (by exact fun _ _ _ h => h) (Or.inl ⟨by rfl, ?hyc5⟩) (by exact hHeld) ?rec5
    case hyc5 => ((intro u hu; obtain ⟨hu0, hu1, hub⟩ := hu; have hxu := Hx.out u hub); go_simp <;> with_reducible rfl)
    try simp only [Act.put, List.setIfInBounds_toArray, List.set_cons_zero, List.set_cons_succ]
    refine wpAnyH_take (i := 6) (oi := _) (v := ?_) (by simp only [List.getElem?_toArray, List.getElem?_cons_succ, List.getElem?_cons_zero]; rfl) (by kernel_rfl) (by kernel_rfl) (by kernel_rfl) (by exact fun _ _ _ h => h) (Or.inl ⟨by rfl, ?hyc6⟩) (by exact hHeld) ?rec6
    case hyc6 => ((intro u hu; obtain ⟨hu0, hu1, hub⟩ := hu; have hxu := Hx.out u hub); go_simp <;> with_reducible rfl)
    try simp only [Act.put, List.setIfInBounds_toArray, List.set_cons_zero, List.set_cons_succ]
    refine wpAnyH_take (i := 7) (oi := _) (v := ?_) (by simp only [List.getElem?_toArray, List.getElem?_cons_succ, List.getElem?_cons_zero]; rfl) (by kernel_rfl) (by kernel_rfl) (by kernel_rfl) (by exact fun _ _ _ h => h) (Or.inl ⟨by rfl, ?hyc7⟩) (by exact hHeld) ?rec7
    case hyc7 => ((intro u hu; obtain ⟨hu0, hu1, hub⟩ := hu; have hxu := Hx.out u hub); go_simp <;> with_reducible rfl)
    try simp only [Act.put, List.setIfInBounds_toArray, List.set_cons_zero, List.set_cons_succ]
    refine wpAnyH_take (i := 8) (oi := _) (v := ?_) (by simp only [List.getElem?_toArray, List.getElem?_cons_succ, List.getElem?_cons_zero]; rfl) (by kernel_rfl) (by kernel_rfl) (by kernel_rfl) (by exact fun _ _ _ h => h) (Or.inl ⟨by rfl, ?hyc8⟩) (by exact hHeld) ?rec8
    case hyc8 => ((intro u hu; obtain ⟨hu0, hu1, hub⟩ := hu; have hxu := Hx.out u hub); go_simp <;> with_reducible rfl)
    try simp only [Act.put, List.setIfInBounds_toArray, List.set_cons_zero, List.set_cons_succ]
    refine wpAnyH_take (i := 9) (oi := _) (v := ?_) (by simp only [List.getElem?_toArray, List.getElem?_cons_succ, List.getElem?_cons_zero]; rfl) (by kernel_rfl) (by kernel_rfl) (by kernel_rfl) (by exact fun _ _ _ h => h) (Or.inl ⟨by rfl, ?hyc9⟩) (by exact hHeld) ?rec9
    case hyc9 => ((intro u hu; obtain ⟨hu0, hu1, hub⟩ := hu; have hxu := Hx.out u hub); go_simp <;> with_reducible rfl)
    try simp only [Act.put, List.setIfInBounds_toArray, List.set_cons_zero, List.set_cons_succ]
    refine wpAnyH_take (i := 10) (oi := _) (v := ?_) (by simp only [List.getElem?_toArray, List.getElem?_cons_succ, List.getElem?_cons_zero]; rfl) (by kernel_rfl) (by kernel_rfl) (by kernel_rfl) (by exact fun _ _ _ h => h) (Or.inl ⟨by rfl, ?hyc10⟩) (by exact hHeld) ?rec10
    case hyc10 => ((intro u hu; obtain ⟨hu0, hu1, hub⟩ := hu; have hxu := Hx.out u hub); go_simp <;> with_reducible rfl)
    try simp only [Act.put, List.setIfInBounds_toArray, List.set_cons_zero, List.set_cons_succ]
    refine wpAnyH_take (i := 11) (oi := _) (v := ?_) (by simp only [List.getElem?_toArray, List.getElem?_cons_succ, List.getElem?_cons_zero]; rfl) (by kernel_rfl) (by kernel_rfl) (by kernel_rfl) (by exact fun _ _ _ h => h) (Or.inl ⟨by rfl, ?hyc11⟩) (by exact hHeld) ?rec11
    case hyc11 => ((intro u hu; obtain ⟨hu0, hu1, hub⟩ := hu; have hxu := Hx.out u hub); go_simp <;> with_reducible rfl)
    try simp only [Act.put, List.setIfInBounds_toArray, List.set_cons_zero, List.set_cons_succ]
    refine wpAnyH_ready (rs := [12]) (by kernel_rfl) (by simp) ?_
    refine AllReadyH.cons (o := _) (by simp only [List.getElem?_toArray, List.getElem?_cons_succ, List.getElem?_cons_zero]; rfl) (fun K hK => ?_) AllReadyH.nil
    go_simp
    refine hK.out _ _ ⟨g0, g1, HF.out⟩ (fun hHeld2 => ?_)
    refine held_strong (T := fun u => u = (w6.alloc (.cells (bytesV zeros16).toArray 5)).drew) (by rintro _ rfl; exact hHeld2) _ _ _ _ ?_
    clear hK K hHeld hHeld2
    refine wpAnyH_take (i := 13) (oi := _) (v := ?_) (by simp only [List.getElem?_toArray, List.getElem?_cons_succ, List.getElem?_cons_zero]; rfl) (by kernel_rfl) (by kernel_rfl) (by kernel_rfl) (by exact fun _ _ _ h => h) (Or.inl ⟨by rfl, ?hyc13⟩) (by exact rfl) ?rec13
    case hyc13 => (rintro u rfl; go_simp <;> with_reducible rfl)
    try simp only [Act.put, List.setIfInBounds_toArray, List.set_cons_zero, List.set_cons_succ]
    refine wpAnyH_take (i := 14) (oi := _) (v := .bool true) (by simp only [List.getElem?_toArray, List.getElem?_cons_succ, List.getElem?_cons_zero]; rfl) (by kernel_rfl) (by kernel_rfl) (by kernel_rfl) (by exact fun _ _ _ h => h) (Or.inl ⟨by rfl, ?hyc14⟩) (by exact rfl) ?rec14
    case hyc14 => (rintro u rfl; go_simp)
    try simp only [Act.put, List.setIfInBounds_toArray, List.set_cons_zero, List.set_cons_succ]
    refine wpAnyH_take (i := 15) (oi := _) (v := ?_) (by simp only [List.getElem?_toArray, List.getElem?_cons_succ, List.getElem?_cons_zero]; rfl) (by kernel_rfl) (by kernel_rfl) (by kernel_rfl) (by exact fun _ _ _ h => h) (Or.inl ⟨by rfl, ?hyc15⟩) (by exact rfl) ?rec15
    case hyc15 => (rintro u rfl; go_simp <;> with_reducible rfl)
    try simp only [Act.put, List.setIfInBounds_toArray, List.set_cons_zero, List.set_cons_succ]
    refine wpAnyH_take (i := 16) (oi := _) (v := ?_) (by simp only [List.getElem?_toArray, List.getElem?_cons_succ, List.getElem?_cons_zero]; rfl) (by kernel_rfl) (by kernel_rfl) (by kernel_rfl) (by exact fun _ _ _ h => h) (Or.inl ⟨by rfl, ?hyc16⟩) (by exact rfl) ?rec16
    case hyc16 => (rintro u rfl; go_simp <;> with_reducible rfl)
    try simp only [Act.put, List.setIfInBounds_toArray, List.set_cons_zero, List.set_cons_succ]
    refine wpAnyH_take (i := 17) (oi := _) (v := ?_) (by simp only [List.getElem?_toArray, List.getElem?_cons_succ, List.getElem?_cons_zero]; rfl) (by kernel_rfl) (by kernel_rfl) (by kernel_rfl) (by exact fun _ _ _ h => h) (Or.inl ⟨by rfl, ?hyc17⟩) (by exact rfl) ?rec17
    case hyc17 => (rintro u rfl; go_simp <;> with_reducible rfl)
    try simp only [Act.put, List.setIfInBounds_toArray, List.set_cons_zero, List.set_cons_succ]
    refine wpAnyH_done (by kernel_rfl) ?_ _
    go_wp2
    go_ret
    exact ⟨rfl, HE.out⟩
set_option maxHeartbeats 3200000 in
set_option maxRecDepth 100000 in
theorem back_some (s zs : ByteArray) (i zi : Int) (l : List UInt8) (A : Option Addr) (n c : Nat) (w : World) (hr : Rd w w.heap.size A (bytesV l)) (hs : decide (1000 < (s.size : Int)) = false) (hn : decide (100 < (n : Int)) = false)
    (bs : List UInt8) (k q : Nat) (rb : Bool) (ys : ByteArray) (yi : Int) (on : Bool) (er : Int) (hq : bs.length = q) (one : One s i k q rb ys yi on er)
    (HL : Hid (∀ W, Calls Try.prog 11 #[.agg #[.string s, .int .i64 i]] W fun e w' => Hands W (bs, k) e w'))
    (HA : Hid (∀ (A1 : Option Addr) (c1 : Nat) (W : World), Rd W W.heap.size A1 (bytesV bs) → q ≤ c1 → Calls Try.prog 13 #[.slice A1 q c1] W fun e w' => e = .returned (.tuple #[.agg #[.string ys, .int .i64 yi], .bool on, .int .i64 er]) ∧ Below W.heap.size W w'))
    (HR : Hid (∀ W, Calls Try.prog 16 #[.string s] W fun e w' => e = .returned (.bool rb) ∧ Below W.heap.size W w'))
    (H13 : Hid (∀ W, Rd W W.heap.size A (bytesV l) → Calls Try.prog 13 #[.slice A n c] W fun e w' => e = .returned (.tuple #[.agg #[.string zs, .int .i64 zi], .bool true, .int .i64 0]) ∧ Below W.heap.size W w'))
    (HZ : Hid (∀ W, Calls Try.prog 11 #[.agg #[.string zs, .int .i64 zi]] W fun e w' => Hands W (l, 0) e w')) (HCQ : Hid ((l, 0).1.length = n))  :
    Calls Try.prog 6 #[.agg #[.string s, .int .i64 i], .slice A n c] w fun e w' => e = .returned (.bool true) ∧ Below w.heap.size w w' := by
  have hne : ∀ W, (binOp .neq 23 (.agg #[.string s, .int .i64 i]) (.agg #[.string s, .int .i64 i])).run Try.prog W = .ok (.bool false) W := fun W => by
    have := ent_neq W s s i i
    simpa using this
  have hg : ∀ (x y : Operand) (xs zs : Array Value) (op : BinOp) (W : World), (eqGuard op 23 x y (.agg xs) (.agg zs)).run Try.prog W = .ok () W := fun x y xs zs op W => guard_at23 W x y xs zs op
  have Hr := Lib.hid hr
  have Hq : Hid ((bs, k).1.length = q) := Lib.hid hq
  clear hr hq
  rcases one with ⟨rfl, rfl, rfl, rfl, rfl⟩ | ⟨rfl, rfl, rfl, rfl, rfl⟩ | ⟨rfl, rfl, rfl, rfl, rfl, rfl, rfl⟩
  all_goals
    go_enter Try.func6, Try.ntmps6
    go_wp2_with (first
      | (go_at_call 10; (with_reducible refine (shown_any _).mono ?_); rintro e w1 ⟨he, hb1⟩; obtain rfl := he; obtain ⟨hk1, hb1', hs1'⟩ := kept_ent hb1; obtain ⟨a0, a1⟩ := ent_cells hk1; have HK1 := Lib.hid hk1; have HB1 := Lib.hid hb1'; clear hb1 hb1' hk1)
      | (go_at_call 11; (with_reducible refine (HL.out _).mono ?_); rintro e w2 hh; obtain ⟨A2, d2, he, hc2, -, hr2, hb2⟩ := hh.got Hq.out; obtain rfl := he; have hk2 := HK1.out.below hb2 HK1.out.lt; have HK2 := Lib.hid hk2; have HB2 := Lib.hid (HB1.out.trans (hb2.mono HB1.out.size)); have HR2 := Lib.hid hr2; have HC2 := Lib.hid hc2; clear hh hb2 hr2 hk2 a0 a1 hc2)
      | (go_at_call 13; (with_reducible refine (HA.out _ _ _ HR2.out HC2.out).mono ?_); rintro e w3 ⟨he, hb3⟩; obtain rfl := he; have hk3 := HK2.out.below hb3 HK2.out.lt; obtain ⟨a0, a1⟩ := ent_cells hk3; have hlt3 := hk3.lt; have hB3 := HB2.out.trans (hb3.mono HB2.out.size); have HB3 := Lib.hid (fun o => hB3.trans ((alloc_below w3 o).mono hB3.size)); clear hb3 hk3 hB3)
      | (go_at_call 16; (with_reducible refine (HR.out _).mono ?_); rintro e w4 ⟨he, hb4⟩; obtain rfl := he; have HB4 := Lib.hid ((HB3.out _).trans (hb4.mono (HB3.out _).size)); clear hb4 a0 a1 hlt3)
      | (go_at_call 13; (with_reducible refine (H13.out _ ((Hr.out.below HB4.out).more HB4.out.size)).mono ?_); rintro e w5 ⟨he, hb5⟩; obtain rfl := he; have hB5 := HB4.out.trans (hb5.mono HB4.out.size); have HB5 := Lib.hid (fun o => hB5.trans ((alloc_below w5 o).mono hB5.size)); clear hb5 hB5)
      | (go_at_call 11; (with_reducible refine (HZ.out _).mono ?_); rintro e w6 hh; obtain ⟨A6, d6, he, -, -, hr6, hb6⟩ := hh.got HCQ.out; obtain rfl := he; obtain ⟨hj6, -, hlt6⟩ := kept_ent hb6; obtain ⟨z0, z1⟩ := ent_cells hj6; have HB6 := Lib.hid ((HB5.out _).trans (hb6.mono (HB5.out _).size)); have HR6 := Lib.hid hr6; have e1 := str_of (c := d6) (show l.length = n from HCQ.out) HR6.out; have e2 := str_of (c := c) (show l.length = n from HCQ.out) (Hr.out.below HB6.out); clear hh hb6 hr6 hj6))
  all_goals
    go_ret
    exact ⟨rfl, HB6.out⟩
set_option maxHeartbeats 800000 in
theorem back_walk (s : ByteArray) (i : Int) (l : List UInt8) (A : Option Addr) (n c : Nat) (w : World) (hn : l.length = n) (hc : n ≤ c) (hr : Rd w w.heap.size A (bytesV l)) :
    Calls Try.prog 6 #[.agg #[.string s, .int .i64 i], .slice A n c] w fun e w' => e = .returned (.bool true) ∧ Below w.heap.size w w' := by
  by_cases h : s.size ≤ 1000
  · have hs1 : decide (1000 < (s.size : Int)) = false := decide_eq_false (by omega)
    by_cases h2 : n ≤ 100
    · have hn1 : decide (100 < (n : Int)) = false := decide_eq_false (by omega)
      obtain ⟨bs, k, q, rb, ys, yi, on, er, h1, h2, h3, h4, h5⟩ := lay_one s i
      have HL : Hid (∀ W, Calls Try.prog 11 #[.agg #[.string s, .int .i64 i]] W fun e w' => Hands W (bs, k) e w') := fun W => by
        have := lay_any s i W
        rwa [h1] at this
      have HA : Hid (∀ (A1 : Option Addr) (c1 : Nat) (W : World), Rd W W.heap.size A1 (bytesV bs) → q ≤ c1 → Calls Try.prog 13 #[.slice A1 q c1] W fun e w' => e = .returned (.tuple #[.agg #[.string ys, .int .i64 yi], .bool on, .int .i64 er]) ∧ Below W.heap.size W w') := fun A1 c1 W hW hc1 => by
        have := take_any bs A1 q c1 W h2 hW hc1
        unfold HandsT at this
        rwa [h4] at this
      have HR : Hid (∀ W, Calls Try.prog 16 #[.string s] W fun e w' => e = .returned (.bool rb) ∧ Below W.heap.size W w') := fun W => by
        have := right_any s W
        rwa [h3] at this
      have HT : ∀ W, Rd W W.heap.size A (bytesV l) → Calls Try.prog 13 #[.slice A n c] W fun e w' => e = .returned (slotV (takS hsh l)) ∧ Below W.heap.size W w' := fun W hW => take_any l A n c W hn hW hc
      have HZ0 : ∀ W, Calls Try.prog 11 #[.agg #[.string ⟨#[]⟩, .int .i64 0]] W fun e w' => Hands W (([] : List UInt8), 120) e w' := fun W => lay_any ⟨#[]⟩ 0 W
      cases hT : takS hsh l with
      | none =>
        rw [hT] at HT
        exact back_none s i l A n c w hr hs1 hn1 bs k q rb ys yi on er h2 h5 HL HA HR HT HZ0 rfl
      | some t =>
        rw [hT] at HT
        obtain ⟨hok, hb⟩ := slot_tak hT
        cases t with
        | none =>
          have hl : l = zeros16 := hb.symm
          exact back_free s i l A n c w hr hs1 hn1 bs k q rb ys yi on er h2 h5 HL HA HR HT HZ0 rfl hl (by rw [← hn, hl]; rfl)
        | some x =>
          have hx := hok x rfl
          refine back_some s ⟨x.n.toArray⟩ i (x.i : Int) l A n c w hr hs1 hn1 bs k q rb ys yi on er h2 h5 HL HA HR HT (fun W => ?_) hn
          have h := lay_any ⟨x.n.toArray⟩ (x.i : Int) W
          rw [layE_yes (H := hsh) (n := (⟨x.n.toArray⟩ : ByteArray).data.toList) hx.name (by have := hx.ino; omega)] at h
          have e : entB hsh ⟨(⟨x.n.toArray⟩ : ByteArray).data.toList, ((x.i : Int)).toNat⟩ = l := hb
          rw [e] at h
          exact h
    · have hn1 : decide (100 < (n : Int)) = true := decide_eq_true (by omega)
      clear hn hc hr h h2
      go_enter Try.func6, Try.ntmps6
      go_wp2_with (go_at_call 10; (with_reducible refine (shown_any _).mono ?_); rintro e w1 ⟨he, hb1⟩; obtain rfl := he; obtain ⟨hk1, hb1', hs1'⟩ := kept_ent hb1; obtain ⟨a0, a1⟩ := ent_cells hk1; have HB1 := Lib.hid hb1'; clear hb1 hb1')
      go_ret
      exact ⟨rfl, HB1.out⟩
  · have hs1 : decide (1000 < (s.size : Int)) = true := decide_eq_true (by omega)
    clear hn hc hr h
    go_enter Try.func6, Try.ntmps6
    go_wp2_with (go_at_call 10; (with_reducible refine (shown_any _).mono ?_); rintro e w1 ⟨he, hb1⟩; obtain rfl := he; obtain ⟨hk1, hb1', hs1'⟩ := kept_ent hb1; obtain ⟨a0, a1⟩ := ent_cells hk1; have HB1 := Lib.hid hb1'; clear hb1 hb1')
    go_ret
    exact ⟨rfl, HB1.out⟩

theorem back_contract (H : Type) (enc : TypeId × Value → H) (W : World) (base : Nat) (args : Array Value) (ds gs : List (DataW H)) (before : List MemPlace)
    (hval : ∀ (j : Nat) t v, Try.f6.params[j]? = some t → args[j]? = some v → Value.okWide Try.prog W .any base t v)
    (hW : DataW.Whole enc Try.prog Try.f6.params.toList Rows.entryBackSpec.vars false W args.toList ds gs before) :
    Calls Try.prog 6 args W fun e W' => ∃ v, e = .returned v ∧ Rows.entryBackSpec.post enc Try.prog Try.f6 false true false false W args v W' := by
  have hW' := hW
  have hlt : ∀ x ∈ before, x.block < W.heap.size := fun x hx => hW.lt x hx
  obtain ⟨p, q, hA0, hV, rfl, _, _⟩ := hW
  have hA : DataW.TrodAll enc Try.prog W 0 (fun _ => true) true Try.f6.params.toList args.toList ds p := hA0
  rw [Try.params6] at hA hval
  obtain ⟨v0, vs0, d0, ds0, p0, q0, hargs, rfl, rfl, h0, r0⟩ := trodAll_cons hA
  obtain ⟨v1, vs1, d1, ds1, p1, q1, rfl, rfl, rfl, h1, r1⟩ := trodAll_cons r0
  obtain ⟨rfl, rfl, rfl⟩ := trodAll_nil r1
  obtain rfl : args = #[v0, v1] := by cases args; simp_all
  obtain ⟨rfl, rfl⟩ := trodVars_none hV
  clear hA0
  obtain ⟨s0, i0, rfl, hs0, hj0, hk0⟩ := open_ent (hval 0 23 v0 rfl rfl) h0
  unfold maxLen at hs0
  obtain ⟨A1, n1, c1, l1, rfl, hn1, hc1, hm1, hr1⟩ := open_bytesL Try.underlying24 Try.underlying5 cells5 (hval 1 24 v1 rfl rfl) h1 (fun x hx => hlt x (by simp [hx]))
  unfold maxLen at hm1
  refine (back_walk s0 i0 l1 A1 n1 c1 W hn1 hc1 hr1).mono fun e W' ⟨he, hb⟩ => ?_
  subst he
  exact ⟨_, rfl, law_post laid (by kernel_rfl) Try.underlying4 (by rw [Try.params6]; decide +kernel) rfl hW' ⟨rfl, rfl, rfl⟩ hb⟩

set_option maxRecDepth 100000 in
theorem back_lifted (os : Os) (started : os.Started) (H : Type) (enc : TypeId × Value → H) :
    ReturnsInHanded {} Try.checked os 6 .any (Rows.entryBackSpec.pre6 enc Try.prog Try.f6 Rows.entryBackRow.domain false) (Rows.entryBackSpec.post enc Try.prog Try.f6 false true false false) := by
  refine returnsInHanded_of_change (C := Try.checked) own started (by kernel_rfl) Try.func6
    (ChangeSpec.witness6 (enc := enc) (C := Try.checked) false ⟨#[], #[.agg #[.string .empty, .int .i64 0], .slice none 0 0], []⟩ 8 (by kernel_rfl) (by kernel_rfl) (by kernel_rfl) (by kernel_rfl)) ?_
  intro W base args ds gs before hval hW _ _
  exact back_contract H enc W base args ds gs before hval hW

/-- EntryBack is true for every input. -/
theorem back_holds : Rows.EntryBackSaid :=
  OpenClaim.holds_of_wide 6 Try.f6 rfl rfl rfl rfl rfl rfl rfl ⟨rfl, rfl, rfl, rfl, rfl⟩ rfl rfl rfl rfl rfl (by kernel_rfl) Try.func6 (by kernel_rfl)
    (of_decide_eq_true (by kernel_rfl)) (by unfold Func.isWrapper; first | (rw [if_pos (by decide +kernel)]; kernel_rfl) | (rw [if_neg (by decide +kernel)]; exact ⟨rfl, rfl⟩))
    (fun os started H enc _ => back_lifted os started H enc)
end Go.Proofs.Ytlopndnjkphdnaa
