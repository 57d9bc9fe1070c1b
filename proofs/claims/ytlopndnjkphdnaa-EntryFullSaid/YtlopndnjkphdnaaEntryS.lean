/-
  The document's examples: the statements' shown.
-/
import Derived.Test.YtlopndnjkphdnaaEntryF
import Derived.Deep.RegionHeld3
namespace Go.Proofs.Ytlopndnjkphdnaa.Entry
open Go.RowKit

section
variable {P : Program} {md : Region.Mode} {ops : Array Oper} {Q : Exit → Act → World → Prop} {S T : World → Prop}
theorem held_strong (h : ∀ w, T w → S w) : ∀ (fuel : Nat) (listed : Array Bool) (a : Act) (w : World), wpAnyH P md ops Q T fuel listed a w → wpAnyH P md ops Q S fuel listed a w
  | 0, _, _, _, k => k
  | fuel + 1, _, _, _, k => ⟨k.1, fun i hi => wpOp_mono (fun _ w' h' => ⟨h w' h'.1, held_strong h fuel _ _ _ h'.2⟩) (k.2 i hi)⟩
end

set_option maxHeartbeats 3200000 in
set_option maxRecDepth 100000 in
theorem shown_any (w : World) : Calls Try.prog 10 #[] w fun e w' => e = .returned (.bool true) ∧ Below w.heap.size w w' := by
  have HA1 : Hid (∀ W, Calls Try.prog 11 #[.agg #[.string ⟨#[97]⟩, .int .i64 5]] W fun e w' => Hands W (lA, 0) e w') := fun W => by
    have h := lay_any ⟨#[97]⟩ 5 W
    rw [show (⟨#[97]⟩ : ByteArray).data.toList = [97] from rfl, lay_A, bytes_A] at h
    exact h
  have HA2 : Hid (∀ W, Calls Try.prog 23 #[.slice none 0 0, .agg #[.string ⟨#[97]⟩, .int .i64 5]] W fun e w' => Hands W (lA, 0) e w') := fun W => by
    have h := add_any [] none 0 0 ⟨#[97]⟩ 5 W rfl (.inl rfl) (by decide) (by decide) (by decide)
    rw [show (⟨#[97]⟩ : ByteArray).data.toList = [97] from rfl, add_A, bytes_A] at h
    exact h
  have HA3 : Hid (∀ A c W, Rd W W.heap.size A (bytesV lA) → 16 ≤ c → c ≤ maxLen → Calls Try.prog 23 #[.slice A 16 c, .agg #[.string ⟨#[98]⟩, .int .i64 6]] W fun e w' => Hands W (dirB hsh [some xA, some xB], 0) e w') := fun A c W hr h1 h2 => by
    have h := add_any lA A 16 c ⟨#[98]⟩ 6 W rfl hr h1 h2 (by decide)
    rw [show (⟨#[98]⟩ : ByteArray).data.toList = [98] from rfl, show lA = dirB hsh [some xA] from bytes_A.symm, add_B] at h
    exact h
  have HA4 : Hid (∀ A c W, Rd W W.heap.size A (bytesV (dirB hsh [some xA, some xB])) → 32 ≤ c → c ≤ maxLen → Calls Try.prog 25 #[.slice A 32 c, .string ⟨#[97]⟩] W fun e w' => Hands W (dirB hsh [none, some xB], 0) e w') := fun A c W hr h1 h2 => by
    have h := remove_any (dirB hsh [some xA, some xB]) A 32 c ⟨#[97]⟩ W (length_dirB dir_AB.ok) hr h1 h2 (by decide)
    rw [show (⟨#[97]⟩ : ByteArray).data.toList = [97] from rfl, rem_A] at h
    exact h
  have HA5 : Hid (∀ A c W, Rd W W.heap.size A (bytesV (dirB hsh [none, some xB])) → 32 ≤ c → c ≤ maxLen → Calls Try.prog 25 #[.slice A 32 c, .string ⟨#[98]⟩] W fun e w' => Hands W (dirB hsh [], 0) e w') := fun A c W hr h1 h2 => by
    have h := remove_any (dirB hsh [none, some xB]) A 32 c ⟨#[98]⟩ W (length_dirB dir_B.ok) hr h1 h2 (by decide)
    rw [show (⟨#[98]⟩ : ByteArray).data.toList = [98] from rfl, rem_B] at h
    exact h
  have HL2 := Lib.hid (show (dirB hsh [some xA, some xB]).length = 32 from length_dirB dir_AB.ok)
  have HL3 := Lib.hid (show (dirB hsh [none, some xB]).length = 32 from length_dirB dir_B.ok)
  have hmk := make12
  generalize dirB hsh [some xA, some xB] = lB at *
  generalize dirB hsh [none, some xB] = lC at *
  go_enter Try.func10, Try.ntmps10
  go_wp2_with (first
    | (go_at_call 11; (with_reducible refine (HA1.out _).mono ?_); rintro e w1 hh; obtain ⟨A1, c1, he, hc1, hm1, hr1, hb1⟩ := hh.got (n := 16) rfl; obtain rfl := he; have HB1 := Lib.hid hb1; have HR1 := Lib.hid hr1; clear hh hb1 hr1 hc1 hm1)
    | (go_at_call 23; (with_reducible refine (HA2.out _).mono ?_); rintro e w2 hh; obtain ⟨A2, c2, he, hc2, hm2, hr2, hb2⟩ := hh.got (n := 16) rfl; obtain rfl := he; have HB2 := Lib.hid (HB1.out.trans (hb2.mono HB1.out.size)); have HR12 := Lib.hid ((HR1.out.below hb2).more hb2.size); have HR2 := Lib.hid hr2; have HC2 := Lib.hid (And.intro hc2 hm2); clear hh hb2 hr2 hc2 hm2)
    | (go_at_call 23; (with_reducible refine (HA3.out _ _ _ HR2.out HC2.out.1 HC2.out.2).mono ?_); rintro e w3 hh; obtain ⟨A3, c3, he, hc3, hm3, hr3, hb3⟩ := hh.got HL2.out; obtain rfl := he; have HB3 := Lib.hid (HB2.out.trans (hb3.mono HB2.out.size)); have HR13 := Lib.hid ((HR12.out.below hb3).more hb3.size); have HR23 := Lib.hid ((HR2.out.below hb3).more hb3.size); have HR3 := Lib.hid hr3; have HC3 := Lib.hid (And.intro hc3 hm3); clear hh hb3 hr3 hc3 hm3)
    | (go_at_call 25; (with_reducible refine (HA4.out _ _ _ HR3.out HC3.out.1 HC3.out.2).mono ?_); rintro e w4 hh; obtain ⟨A4, c4, he, hc4, hm4, hr4, hb4⟩ := hh.got HL3.out; obtain rfl := he; have HB4 := Lib.hid (HB3.out.trans (hb4.mono HB3.out.size)); have HR14 := Lib.hid ((HR13.out.below hb4).more hb4.size); have HR24 := Lib.hid ((HR23.out.below hb4).more hb4.size); have HR4 := Lib.hid hr4; have HC4 := Lib.hid (And.intro hc4 hm4); clear hh hb4 hr4 hc4 hm4)
    | (go_at_call 25; (with_reducible refine (HA5.out _ _ _ HR4.out HC4.out.1 HC4.out.2).mono ?_); rintro e w5 hh; obtain ⟨A5, c5, he, hc5, hm5, hr5, hb5⟩ := hh.got (n := 0) rfl; obtain rfl := he; have HB5 := Lib.hid (HB4.out.trans (hb5.mono HB4.out.size)); have HR15 := Lib.hid ((HR14.out.below hb5).more hb5.size); have HR25 := Lib.hid ((HR24.out.below hb5).more hb5.size); clear hh hb5 hr5 hc5 hm5))
  have hba := below_drew (alloc_below w5 (.cells (bytesV z12).toArray 5))
  have r1 := HR15.out
  have r2 := HR25.out
  have Hx : Hid (∀ u, Below w5.heap.size w5 u → (convert 24 9 (.slice A1 16 c1)).run Try.prog u = .ok (.string ⟨lA.toArray⟩) u) := Lib.hid fun u hu => str_of (show lA.length = 16 from rfl) (r1.below hu)
  have hs3 := str_of (w := (w5.alloc (.cells (bytesV z12).toArray 5)).drew) (c := c1) (show lA.length = 16 from rfl) (r1.below hba)
  have hs4 := str_of (w := (w5.alloc (.cells (bytesV z12).toArray 5)).drew) (c := c2) (show lA.length = 16 from rfl) (r2.below hba)
  have hz : (convert 24 9 (.slice (some ⟨w5.heap.size, 0, none⟩) 12 12)).run Try.prog (w5.alloc (.cells (bytesV z12).toArray 5)).drew = .ok (.string ⟨z12.toArray⟩) (w5.alloc (.cells (bytesV z12).toArray 5)).drew := str_of rfl (show Rd (w5.alloc (.cells (bytesV z12).toArray 5)).drew _ _ _ from z12_rd w5)
  have HBA := Lib.hid (HB5.out.trans (hba.mono HB5.out.size))
  have HBZ := Lib.hid hba
  have hzl : z12.length = 12 := rfl
  have heq2 : lA = ((⟨#[1, 229, 5, 97]⟩ : ByteArray) ++ ⟨z12.toArray⟩).toList := by rw [ByteArray.toList_eq]; decide
  clear r1 r2 hba
  have hH0 := below_drew (Below.refl w5.heap.size w5)
  refine wp_region_held_drew (S := fun u => Below w5.heap.size w5 u) (by kernel_rfl) hH0 (fun hHeld => ?_)
  refine wpAnyH_take (i := 0) (oi := _) (v := ?_) (by simp only [List.getElem?_toArray, List.getElem?_cons_zero]; rfl) (by kernel_rfl) (by kernel_rfl) (by kernel_rfl) (by exact fun _ _ _ h => h) (Or.inl ⟨by rfl, ?hya0⟩) (by exact hHeld) ?rea0
  case hya0 => (intro u hu; have hxu := Hx.out u hu; go_simp <;> with_reducible rfl)
  try simp only [Act.put, List.setIfInBounds_toArray, List.set_cons_zero, List.set_cons_succ]
  refine wpAnyH_take (i := 1) (oi := _) (v := ?_) (by simp only [List.getElem?_toArray, List.getElem?_cons_succ, List.getElem?_cons_zero]; rfl) (by kernel_rfl) (by kernel_rfl) (by kernel_rfl) (by exact fun _ _ _ h => h) (Or.inl ⟨by rfl, ?hya1⟩) (by exact hHeld) ?rea1
  case hya1 => (intro u hu; have hxu := Hx.out u hu; go_simp <;> with_reducible rfl)
  try simp only [Act.put, List.setIfInBounds_toArray, List.set_cons_zero, List.set_cons_succ]
  refine wpAnyH_take (i := 2) (oi := _) (v := ?_) (by simp only [List.getElem?_toArray, List.getElem?_cons_succ, List.getElem?_cons_zero]; rfl) (by kernel_rfl) (by kernel_rfl) (by kernel_rfl) (by exact fun _ _ _ h => h) (Or.inl ⟨by rfl, ?hya2⟩) (by exact hHeld) ?rea2
  case hya2 => (intro u hu; have hxu := Hx.out u hu; go_simp <;> with_reducible rfl)
  try simp only [Act.put, List.setIfInBounds_toArray, List.set_cons_zero, List.set_cons_succ]
  refine wpAnyH_take (i := 3) (oi := _) (v := ?_) (by simp only [List.getElem?_toArray, List.getElem?_cons_succ, List.getElem?_cons_zero]; rfl) (by kernel_rfl) (by kernel_rfl) (by kernel_rfl) (by exact fun _ _ _ h => h) (Or.inl ⟨by rfl, ?hya3⟩) (by exact hHeld) ?rea3
  case hya3 => (intro u hu; have hxu := Hx.out u hu; go_simp <;> with_reducible rfl)
  try simp only [Act.put, List.setIfInBounds_toArray, List.set_cons_zero, List.set_cons_succ]
  refine wpAnyH_take (i := 4) (oi := _) (v := ?_) (by simp only [List.getElem?_toArray, List.getElem?_cons_succ, List.getElem?_cons_zero]; rfl) (by kernel_rfl) (by kernel_rfl) (by kernel_rfl) (by exact fun _ _ _ h => h) (Or.inl ⟨by rfl, ?hya4⟩) (by exact hHeld) ?rea4
  case hya4 => (intro u hu; have hxu := Hx.out u hu; go_simp <;> with_reducible rfl)
  try simp only [Act.put, List.setIfInBounds_toArray, List.set_cons_zero, List.set_cons_succ]
  refine wpAnyH_ready (rs := [5]) (by kernel_rfl) (by simp) ?_
  refine AllReadyH.cons (o := _) (by simp only [List.getElem?_toArray, List.getElem?_cons_succ, List.getElem?_cons_zero]; rfl) (fun K hK => ?_) AllReadyH.nil
  go_simp
  refine hK.out _ _ HBZ.out (fun hHeld2 => ?_)
  refine held_strong (T := fun u => u = (w5.alloc (.cells (bytesV z12).toArray 5)).drew) (by rintro _ rfl; exact hHeld2) _ _ _ _ ?_
  clear hK K hHeld hHeld2 hH0 Hx
  refine wpAnyH_take (i := 6) (oi := _) (v := ?_) (by simp only [List.getElem?_toArray, List.getElem?_cons_succ, List.getElem?_cons_zero]; rfl) (by kernel_rfl) (by kernel_rfl) (by kernel_rfl) (by exact fun _ _ _ h => h) (Or.inl ⟨by rfl, ?hyb6⟩) (by exact rfl) ?reb6
  case hyb6 => (rintro u rfl; go_simp <;> with_reducible rfl)
  try simp only [Act.put, List.setIfInBounds_toArray, List.set_cons_zero, List.set_cons_succ]
  refine wpAnyH_take (i := 7) (oi := _) (v := ?_) (by simp only [List.getElem?_toArray, List.getElem?_cons_succ, List.getElem?_cons_zero]; rfl) (by kernel_rfl) (by kernel_rfl) (by kernel_rfl) (by exact fun _ _ _ h => h) (Or.inl ⟨by rfl, ?hyb7⟩) (by exact rfl) ?reb7
  case hyb7 => (rintro u rfl; go_simp <;> with_reducible rfl)
  try simp only [Act.put, List.setIfInBounds_toArray, List.set_cons_zero, List.set_cons_succ]
  refine wpAnyH_take (i := 8) (oi := _) (v := .bool true) (by simp only [List.getElem?_toArray, List.getElem?_cons_succ, List.getElem?_cons_zero]; rfl) (by kernel_rfl) (by kernel_rfl) (by kernel_rfl) (by exact fun _ _ _ h => h) (Or.inl ⟨by rfl, ?hyb8⟩) (by exact rfl) ?reb8
  case hyb8 => (rintro u rfl; go_simp)
  try simp only [Act.put, List.setIfInBounds_toArray, List.set_cons_zero, List.set_cons_succ]
  refine wpAnyH_take (i := 9) (oi := _) (v := ?_) (by simp only [List.getElem?_toArray, List.getElem?_cons_succ, List.getElem?_cons_zero]; rfl) (by kernel_rfl) (by kernel_rfl) (by kernel_rfl) (by exact fun _ _ _ h => h) (Or.inl ⟨by rfl, ?hyb9⟩) (by exact rfl) ?reb9
  case hyb9 => (rintro u rfl; go_simp <;> with_reducible rfl)
  try simp only [Act.put, List.setIfInBounds_toArray, List.set_cons_zero, List.set_cons_succ]
  refine wpAnyH_take (i := 10) (oi := _) (v := ?_) (by simp only [List.getElem?_toArray, List.getElem?_cons_succ, List.getElem?_cons_zero]; rfl) (by kernel_rfl) (by kernel_rfl) (by kernel_rfl) (by exact fun _ _ _ h => h) (Or.inl ⟨by rfl, ?hyb10⟩) (by exact rfl) ?reb10
  case hyb10 => (rintro u rfl; go_simp <;> with_reducible rfl)
  try simp only [Act.put, List.setIfInBounds_toArray, List.set_cons_zero, List.set_cons_succ]
  refine wpAnyH_take (i := 11) (oi := _) (v := ?_) (by simp only [List.getElem?_toArray, List.getElem?_cons_succ, List.getElem?_cons_zero]; rfl) (by kernel_rfl) (by kernel_rfl) (by kernel_rfl) (by exact fun _ _ _ h => h) (Or.inl ⟨by rfl, ?hyb11⟩) (by exact rfl) ?reb11
  case hyb11 => (rintro u rfl; go_simp <;> with_reducible rfl)
  try simp only [Act.put, List.setIfInBounds_toArray, List.set_cons_zero, List.set_cons_succ]
  refine wpAnyH_take (i := 12) (oi := _) (v := ?_) (by simp only [List.getElem?_toArray, List.getElem?_cons_succ, List.getElem?_cons_zero]; rfl) (by kernel_rfl) (by kernel_rfl) (by kernel_rfl) (by exact fun _ _ _ h => h) (Or.inl ⟨by rfl, ?hyb12⟩) (by exact rfl) ?reb12
  case hyb12 => (rintro u rfl; go_simp <;> with_reducible rfl)
  try simp only [Act.put, List.setIfInBounds_toArray, List.set_cons_zero, List.set_cons_succ]
  refine wpAnyH_take (i := 13) (oi := _) (v := ?_) (by simp only [List.getElem?_toArray, List.getElem?_cons_succ, List.getElem?_cons_zero]; rfl) (by kernel_rfl) (by kernel_rfl) (by kernel_rfl) (by exact fun _ _ _ h => h) (Or.inl ⟨by rfl, ?hyb13⟩) (by exact rfl) ?reb13
  case hyb13 => (rintro u rfl; go_simp <;> with_reducible rfl)
  try simp only [Act.put, List.setIfInBounds_toArray, List.set_cons_zero, List.set_cons_succ]
  refine wpAnyH_take (i := 14) (oi := _) (v := ?_) (by simp only [List.getElem?_toArray, List.getElem?_cons_succ, List.getElem?_cons_zero]; rfl) (by kernel_rfl) (by kernel_rfl) (by kernel_rfl) (by exact fun _ _ _ h => h) (Or.inl ⟨by rfl, ?hyb14⟩) (by exact rfl) ?reb14
  case hyb14 => (rintro u rfl; go_simp <;> with_reducible rfl)
  try simp only [Act.put, List.setIfInBounds_toArray, List.set_cons_zero, List.set_cons_succ]
  refine wpAnyH_take (i := 15) (oi := _) (v := ?_) (by simp only [List.getElem?_toArray, List.getElem?_cons_succ, List.getElem?_cons_zero]; rfl) (by kernel_rfl) (by kernel_rfl) (by kernel_rfl) (by exact fun _ _ _ h => h) (Or.inl ⟨by rfl, ?hyb15⟩) (by exact rfl) ?reb15
  case hyb15 => (rintro u rfl; go_simp <;> with_reducible rfl)
  try simp only [Act.put, List.setIfInBounds_toArray, List.set_cons_zero, List.set_cons_succ]
  refine wpAnyH_take (i := 16) (oi := _) (v := ?_) (by simp only [List.getElem?_toArray, List.getElem?_cons_succ, List.getElem?_cons_zero]; rfl) (by kernel_rfl) (by kernel_rfl) (by kernel_rfl) (by exact fun _ _ _ h => h) (Or.inl ⟨by rfl, ?hyb16⟩) (by exact rfl) ?reb16
  case hyb16 => (rintro u rfl; go_simp <;> with_reducible rfl)
  try simp only [Act.put, List.setIfInBounds_toArray, List.set_cons_zero, List.set_cons_succ]
  refine wpAnyH_take (i := 17) (oi := _) (v := ?_) (by simp only [List.getElem?_toArray, List.getElem?_cons_succ, List.getElem?_cons_zero]; rfl) (by kernel_rfl) (by kernel_rfl) (by kernel_rfl) (by exact fun _ _ _ h => h) (Or.inl ⟨by rfl, ?hyb17⟩) (by exact rfl) ?reb17
  case hyb17 => (rintro u rfl; go_simp <;> with_reducible rfl)
  try simp only [Act.put, List.setIfInBounds_toArray, List.set_cons_zero, List.set_cons_succ]
  refine wpAnyH_take (i := 18) (oi := _) (v := ?_) (by simp only [List.getElem?_toArray, List.getElem?_cons_succ, List.getElem?_cons_zero]; rfl) (by kernel_rfl) (by kernel_rfl) (by kernel_rfl) (by exact fun _ _ _ h => h) (Or.inl ⟨by rfl, ?hyb18⟩) (by exact rfl) ?reb18
  case hyb18 => (rintro u rfl; go_simp <;> with_reducible rfl)
  try simp only [Act.put, List.setIfInBounds_toArray, List.set_cons_zero, List.set_cons_succ]
  refine wpAnyH_take (i := 19) (oi := _) (v := ?_) (by simp only [List.getElem?_toArray, List.getElem?_cons_succ, List.getElem?_cons_zero]; rfl) (by kernel_rfl) (by kernel_rfl) (by kernel_rfl) (by exact fun _ _ _ h => h) (Or.inl ⟨by rfl, ?hyb19⟩) (by exact rfl) ?reb19
  case hyb19 => (rintro u rfl; go_simp <;> with_reducible rfl)
  try simp only [Act.put, List.setIfInBounds_toArray, List.set_cons_zero, List.set_cons_succ]
  refine wpAnyH_take (i := 20) (oi := _) (v := ?_) (by simp only [List.getElem?_toArray, List.getElem?_cons_succ, List.getElem?_cons_zero]; rfl) (by kernel_rfl) (by kernel_rfl) (by kernel_rfl) (by exact fun _ _ _ h => h) (Or.inl ⟨by rfl, ?hyb20⟩) (by exact rfl) ?reb20
  case hyb20 => (rintro u rfl; go_simp <;> with_reducible rfl)
  try simp only [Act.put, List.setIfInBounds_toArray, List.set_cons_zero, List.set_cons_succ]
  refine wpAnyH_take (i := 21) (oi := _) (v := ?_) (by simp only [List.getElem?_toArray, List.getElem?_cons_succ, List.getElem?_cons_zero]; rfl) (by kernel_rfl) (by kernel_rfl) (by kernel_rfl) (by exact fun _ _ _ h => h) (Or.inl ⟨by rfl, ?hyb21⟩) (by exact rfl) ?reb21
  case hyb21 => (rintro u rfl; go_simp <;> with_reducible rfl)
  try simp only [Act.put, List.setIfInBounds_toArray, List.set_cons_zero, List.set_cons_succ]
  refine wpAnyH_take (i := 22) (oi := _) (v := ?_) (by simp only [List.getElem?_toArray, List.getElem?_cons_succ, List.getElem?_cons_zero]; rfl) (by kernel_rfl) (by kernel_rfl) (by kernel_rfl) (by exact fun _ _ _ h => h) (Or.inl ⟨by rfl, ?hyb22⟩) (by exact rfl) ?reb22
  case hyb22 => (rintro u rfl; go_simp <;> with_reducible rfl)
  try simp only [Act.put, List.setIfInBounds_toArray, List.set_cons_zero, List.set_cons_succ]
  refine wpAnyH_take (i := 23) (oi := _) (v := ?_) (by simp only [List.getElem?_toArray, List.getElem?_cons_succ, List.getElem?_cons_zero]; rfl) (by kernel_rfl) (by kernel_rfl) (by kernel_rfl) (by exact fun _ _ _ h => h) (Or.inl ⟨by rfl, ?hyb23⟩) (by exact rfl) ?reb23
  case hyb23 => (rintro u rfl; go_simp <;> with_reducible rfl)
  try simp only [Act.put, List.setIfInBounds_toArray, List.set_cons_zero, List.set_cons_succ]
  refine wpAnyH_take (i := 24) (oi := _) (v := ?_) (by simp only [List.getElem?_toArray, List.getElem?_cons_succ, List.getElem?_cons_zero]; rfl) (by kernel_rfl) (by kernel_rfl) (by kernel_rfl) (by exact fun _ _ _ h => h) (Or.inl ⟨by rfl, ?hyb24⟩) (by exact rfl) ?reb24
  case hyb24 => (rintro u rfl; go_simp <;> with_reducible rfl)
  try simp only [Act.put, List.setIfInBounds_toArray, List.set_cons_zero, List.set_cons_succ]
  refine wpAnyH_take (i := 25) (oi := _) (v := ?_) (by simp only [List.getElem?_toArray, List.getElem?_cons_succ, List.getElem?_cons_zero]; rfl) (by kernel_rfl) (by kernel_rfl) (by kernel_rfl) (by exact fun _ _ _ h => h) (Or.inl ⟨by rfl, ?hyb25⟩) (by exact rfl) ?reb25
  case hyb25 => (rintro u rfl; go_simp <;> with_reducible rfl)
  try simp only [Act.put, List.setIfInBounds_toArray, List.set_cons_zero, List.set_cons_succ]
  refine wpAnyH_take (i := 26) (oi := _) (v := ?_) (by simp only [List.getElem?_toArray, List.getElem?_cons_succ, List.getElem?_cons_zero]; rfl) (by kernel_rfl) (by kernel_rfl) (by kernel_rfl) (by exact fun _ _ _ h => h) (Or.inl ⟨by rfl, ?hyb26⟩) (by exact rfl) ?reb26
  case hyb26 => (rintro u rfl; go_simp <;> with_reducible rfl)
  try simp only [Act.put, List.setIfInBounds_toArray, List.set_cons_zero, List.set_cons_succ]
  refine wpAnyH_take (i := 27) (oi := _) (v := ?_) (by simp only [List.getElem?_toArray, List.getElem?_cons_succ, List.getElem?_cons_zero]; rfl) (by kernel_rfl) (by kernel_rfl) (by kernel_rfl) (by exact fun _ _ _ h => h) (Or.inl ⟨by rfl, ?hyb27⟩) (by exact rfl) ?reb27
  case hyb27 => (rintro u rfl; go_simp <;> with_reducible rfl)
  try simp only [Act.put, List.setIfInBounds_toArray, List.set_cons_zero, List.set_cons_succ]
  refine wpAnyH_take (i := 28) (oi := _) (v := ?_) (by simp only [List.getElem?_toArray, List.getElem?_cons_succ, List.getElem?_cons_zero]; rfl) (by kernel_rfl) (by kernel_rfl) (by kernel_rfl) (by exact fun _ _ _ h => h) (Or.inl ⟨by rfl, ?hyb28⟩) (by exact rfl) ?reb28
  case hyb28 => (rintro u rfl; go_simp <;> with_reducible rfl)
  try simp only [Act.put, List.setIfInBounds_toArray, List.set_cons_zero, List.set_cons_succ]
  refine wpAnyH_take (i := 29) (oi := _) (v := ?_) (by simp only [List.getElem?_toArray, List.getElem?_cons_succ, List.getElem?_cons_zero]; rfl) (by kernel_rfl) (by kernel_rfl) (by kernel_rfl) (by exact fun _ _ _ h => h) (Or.inl ⟨by rfl, ?hyb29⟩) (by exact rfl) ?reb29
  case hyb29 => (rintro u rfl; go_simp <;> with_reducible rfl)
  try simp only [Act.put, List.setIfInBounds_toArray, List.set_cons_zero, List.set_cons_succ]
  refine wpAnyH_take (i := 30) (oi := _) (v := ?_) (by simp only [List.getElem?_toArray, List.getElem?_cons_succ, List.getElem?_cons_zero]; rfl) (by kernel_rfl) (by kernel_rfl) (by kernel_rfl) (by exact fun _ _ _ h => h) (Or.inl ⟨by rfl, ?hyb30⟩) (by exact rfl) ?reb30
  case hyb30 => (rintro u rfl; go_simp <;> with_reducible rfl)
  try simp only [Act.put, List.setIfInBounds_toArray, List.set_cons_zero, List.set_cons_succ]
  refine wpAnyH_take (i := 31) (oi := _) (v := ?_) (by simp only [List.getElem?_toArray, List.getElem?_cons_succ, List.getElem?_cons_zero]; rfl) (by kernel_rfl) (by kernel_rfl) (by kernel_rfl) (by exact fun _ _ _ h => h) (Or.inl ⟨by rfl, ?hyb31⟩) (by exact rfl) ?reb31
  case hyb31 => (rintro u rfl; go_simp <;> with_reducible rfl)
  try simp only [Act.put, List.setIfInBounds_toArray, List.set_cons_zero, List.set_cons_succ]
  refine wpAnyH_take (i := 32) (oi := _) (v := ?_) (by simp only [List.getElem?_toArray, List.getElem?_cons_succ, List.getElem?_cons_zero]; rfl) (by kernel_rfl) (by kernel_rfl) (by kernel_rfl) (by exact fun _ _ _ h => h) (Or.inl ⟨by rfl, ?hyb32⟩) (by exact rfl) ?reb32
  case hyb32 => (rintro u rfl; go_simp <;> with_reducible rfl)
  try simp only [Act.put, List.setIfInBounds_toArray, List.set_cons_zero, List.set_cons_succ]
  refine wpAnyH_take (i := 33) (oi := _) (v := ?_) (by simp only [List.getElem?_toArray, List.getElem?_cons_succ, List.getElem?_cons_zero]; rfl) (by kernel_rfl) (by kernel_rfl) (by kernel_rfl) (by exact fun _ _ _ h => h) (Or.inl ⟨by rfl, ?hyb33⟩) (by exact rfl) ?reb33
  case hyb33 => (rintro u rfl; go_simp <;> with_reducible rfl)
  try simp only [Act.put, List.setIfInBounds_toArray, List.set_cons_zero, List.set_cons_succ]
  refine wpAnyH_take (i := 34) (oi := _) (v := ?_) (by simp only [List.getElem?_toArray, List.getElem?_cons_succ, List.getElem?_cons_zero]; rfl) (by kernel_rfl) (by kernel_rfl) (by kernel_rfl) (by exact fun _ _ _ h => h) (Or.inl ⟨by rfl, ?hyb34⟩) (by exact rfl) ?reb34
  case hyb34 => (rintro u rfl; go_simp <;> with_reducible rfl)
  try simp only [Act.put, List.setIfInBounds_toArray, List.set_cons_zero, List.set_cons_succ]
  refine wpAnyH_take (i := 35) (oi := _) (v := ?_) (by simp only [List.getElem?_toArray, List.getElem?_cons_succ, List.getElem?_cons_zero]; rfl) (by kernel_rfl) (by kernel_rfl) (by kernel_rfl) (by exact fun _ _ _ h => h) (Or.inl ⟨by rfl, ?hyb35⟩) (by exact rfl) ?reb35
  case hyb35 => (rintro u rfl; go_simp <;> with_reducible rfl)
  try simp only [Act.put, List.setIfInBounds_toArray, List.set_cons_zero, List.set_cons_succ]
  refine wpAnyH_take (i := 36) (oi := _) (v := ?_) (by simp only [List.getElem?_toArray, List.getElem?_cons_succ, List.getElem?_cons_zero]; rfl) (by kernel_rfl) (by kernel_rfl) (by kernel_rfl) (by exact fun _ _ _ h => h) (Or.inl ⟨by rfl, ?hyb36⟩) (by exact rfl) ?reb36
  case hyb36 => (rintro u rfl; go_simp <;> with_reducible rfl)
  try simp only [Act.put, List.setIfInBounds_toArray, List.set_cons_zero, List.set_cons_succ]
  refine wpAnyH_take (i := 37) (oi := _) (v := ?_) (by simp only [List.getElem?_toArray, List.getElem?_cons_succ, List.getElem?_cons_zero]; rfl) (by kernel_rfl) (by kernel_rfl) (by kernel_rfl) (by exact fun _ _ _ h => h) (Or.inl ⟨by rfl, ?hyb37⟩) (by exact rfl) ?reb37
  case hyb37 => (rintro u rfl; go_simp <;> with_reducible rfl)
  try simp only [Act.put, List.setIfInBounds_toArray, List.set_cons_zero, List.set_cons_succ]
  refine wpAnyH_take (i := 38) (oi := _) (v := ?_) (by simp only [List.getElem?_toArray, List.getElem?_cons_succ, List.getElem?_cons_zero]; rfl) (by kernel_rfl) (by kernel_rfl) (by kernel_rfl) (by exact fun _ _ _ h => h) (Or.inl ⟨by rfl, ?hyb38⟩) (by exact rfl) ?reb38
  case hyb38 => (rintro u rfl; go_simp <;> with_reducible rfl)
  try simp only [Act.put, List.setIfInBounds_toArray, List.set_cons_zero, List.set_cons_succ]
  refine wpAnyH_take (i := 39) (oi := _) (v := ?_) (by simp only [List.getElem?_toArray, List.getElem?_cons_succ, List.getElem?_cons_zero]; rfl) (by kernel_rfl) (by kernel_rfl) (by kernel_rfl) (by exact fun _ _ _ h => h) (Or.inl ⟨by rfl, ?hyb39⟩) (by exact rfl) ?reb39
  case hyb39 => (rintro u rfl; go_simp <;> with_reducible rfl)
  try simp only [Act.put, List.setIfInBounds_toArray, List.set_cons_zero, List.set_cons_succ]
  refine wpAnyH_take (i := 40) (oi := _) (v := ?_) (by simp only [List.getElem?_toArray, List.getElem?_cons_succ, List.getElem?_cons_zero]; rfl) (by kernel_rfl) (by kernel_rfl) (by kernel_rfl) (by exact fun _ _ _ h => h) (Or.inl ⟨by rfl, ?hyb40⟩) (by exact rfl) ?reb40
  case hyb40 => (rintro u rfl; go_simp <;> with_reducible rfl)
  try simp only [Act.put, List.setIfInBounds_toArray, List.set_cons_zero, List.set_cons_succ]
  refine wpAnyH_take (i := 41) (oi := _) (v := ?_) (by simp only [List.getElem?_toArray, List.getElem?_cons_succ, List.getElem?_cons_zero]; rfl) (by kernel_rfl) (by kernel_rfl) (by kernel_rfl) (by exact fun _ _ _ h => h) (Or.inl ⟨by rfl, ?hyb41⟩) (by exact rfl) ?reb41
  case hyb41 => (rintro u rfl; go_simp <;> with_reducible rfl)
  try simp only [Act.put, List.setIfInBounds_toArray, List.set_cons_zero, List.set_cons_succ]
  refine wpAnyH_take (i := 42) (oi := _) (v := ?_) (by simp only [List.getElem?_toArray, List.getElem?_cons_succ, List.getElem?_cons_zero]; rfl) (by kernel_rfl) (by kernel_rfl) (by kernel_rfl) (by exact fun _ _ _ h => h) (Or.inl ⟨by rfl, ?hyb42⟩) (by exact rfl) ?reb42
  case hyb42 => (rintro u rfl; go_simp <;> with_reducible rfl)
  try simp only [Act.put, List.setIfInBounds_toArray, List.set_cons_zero, List.set_cons_succ]
  refine wpAnyH_take (i := 43) (oi := _) (v := ?_) (by simp only [List.getElem?_toArray, List.getElem?_cons_succ, List.getElem?_cons_zero]; rfl) (by kernel_rfl) (by kernel_rfl) (by kernel_rfl) (by exact fun _ _ _ h => h) (Or.inl ⟨by rfl, ?hyb43⟩) (by exact rfl) ?reb43
  case hyb43 => (rintro u rfl; go_simp <;> with_reducible rfl)
  try simp only [Act.put, List.setIfInBounds_toArray, List.set_cons_zero]
  refine wpAnyH_done (by kernel_rfl) ?_ _
  go_wp2
  go_ret
  exact ⟨rfl, HBA.out⟩
end Go.Proofs.Ytlopndnjkphdnaa.Entry
